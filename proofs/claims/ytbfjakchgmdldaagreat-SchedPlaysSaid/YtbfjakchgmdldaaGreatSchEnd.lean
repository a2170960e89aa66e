/-
  Joined: SchPick, PlyAll, SchGet, SchAwk, SchVer, PlyAlP, Acts7, SchPlA, SchPlB, SchFlw. Conditions: each theorem's own.
-/
import Derived.Test.YtbfjakchgmdldaaGreatSchTake
import Derived.Test.YtbfjakchgmdldaaGreatSchNext
import Derived.Test.YtbfjakchgmdldaaGreatPlyPush
import Derived.Test.YtbfjakchgmdldaaGreatPlyO
import Derived.Test.YtbfjakchgmdldaaGreatSchDrop
import Derived.Test.YtbfjakchgmdldaaGreatSchSet
import Derived.Test.YtbfjakchgmdldaaGreatPlyPick
import Derived.Test.YtbfjakchgmdldaaGreatPolOpen
import Derived.Test.YtbfjakchgmdldaaGreatSchQue
import Derived.Test.YtbfjakchgmdldaaGreatShelfB

section
namespace Go.Proofs.YtbfjakchgmdldaaGreat
open Go.ChangeShapes Go.WideShapes Go.ChangeAt Go.RowKit Go.Maps
set_option linter.unusedVariables false

theorem results_pick {fn : Func} {p q r u : Tmp} (h : fn.results = #[.tmp p, .cell q 30, .tmp r, .tmp u]) {tmps : Array Value} {W : World} {a : Nat} {x y z : Value} {cs : Array Value} (hp : tmps.getD p undef = x) (hq : tmps.getD q undef = .pointer (some ⟨a, 0, none⟩)) (hr : tmps.getD r undef = y) (hu : tmps.getD u undef = z)
    (ha : W.heap[a]? = some (.cells cs 30 (0, 0))) (hcs : cs.size = 3) : (results fn tmps).run Tryz.prog W = .ok (.tuple #[x, .agg cs, y, z]) W := by
  have e2 := run_loadVar_row W a 30 30 cs (0, 0) _ ha Tryz.underlying30 rfl (by rw [hcs]; exact item_size)
  simp only [Array.getD_eq_getD_getElem?] at hp hq hr hu
  simp [results, h, hp, hq, hr, hu, asAddr, e2]
/-- flow k is next by phase ph, and i is its first item: what the flows then are -/
def Picked (ks : List Int) (F : Int → Fl) (now k ph : Int) (i : Itm) (F' : Int → Fl) : Prop :=
  ∃ r, k ∈ ks ∧ (F k).q = i :: r ∧ Next ks F (atF now) k ph true ∧ F' = updF F k (takenFl (F k) (atF now) ph i r)
theorem Next.up {ks : List Int} {F : Int → Fl} {now k ph : Int} (h : Next ks F now k ph true) : k ∈ ks ∧ ∃ i r, (F k).q = i :: r := by
  have hu : k ∈ ks ∧ upF (F k) = true := by
    rcases h with ⟨_, _, h⟩ | ⟨_, _, _, h⟩ | ⟨h, _⟩
    · exact ⟨h.1.1, h.1.2.1⟩
    · exact ⟨h.1.1, h.1.2.1⟩
    · cases h
  refine ⟨hu.1, ?_⟩
  have h2 := hu.2
  unfold upF at h2
  cases hq : (F k).q with
  | nil => rw [hq] at h2; cases h2
  | cons i r => exact ⟨i, r, rfl⟩
/-- what Pick hands back -/
def PickRet (B s : Nat) (ks : List Int) (F : Int → Fl) (now : Int) (w : World) (e : Ending) (w' : World) : Prop :=
  ∃ k i ph ok F', e = .returned (.tuple #[.int .i64 k, .agg #[.int .i64 i.na, .int .i64 i.de, .int .i64 i.rh], .int .i64 ph, .bool ok]) ∧ SchAt w' B s ks F' ∧ KeptS B w w' ∧ (∀ (j : Nat) (cs : Array Value), w.heap[j]? = some (.cells cs 30 (0, 0)) → w'.heap[j]? = some (.cells cs 30 (0, 0))) ∧
    ((ok = true ∧ Picked ks F now k ph i F') ∨ (ok = false ∧ k = 0 ∧ i = ⟨0, 0, 0⟩ ∧ ph = 0 ∧ F' = F ∧ Next ks F (atF now) 0 0 false))
/-- what Pick hands back, of a scheduler whose queues lie in such blocks -/
def PickRetQ (B s : Nat) (ks : List Int) (F : Int → Fl) (now : Int) (Q : Nat → Prop) (w : World) (e : Ending) (w' : World) : Prop :=
  ∃ k i ph ok F', e = .returned (.tuple #[.int .i64 k, .agg #[.int .i64 i.na, .int .i64 i.de, .int .i64 i.rh], .int .i64 ph, .bool ok]) ∧ SchAtQ w' B s ks F' Q ∧ KeptS B w w' ∧ (∀ (j : Nat) (cs : Array Value), w.heap[j]? = some (.cells cs 30 (0, 0)) → w'.heap[j]? = some (.cells cs 30 (0, 0))) ∧
    ((ok = true ∧ Picked ks F now k ph i F') ∨ (ok = false ∧ k = 0 ∧ i = ⟨0, 0, 0⟩ ∧ ph = 0 ∧ F' = F ∧ Next ks F (atF now) 0 0 false))
set_option maxRecDepth 100000 in
set_option maxHeartbeats 4000000 in
theorem PickQ_any (B s : Nat) (ks : List Int) (F : Int → Fl) (now : Int) (w : World) (Q : Nat → Prop) (hq : SchAtQ w B s ks F Q) (hQ : ∀ j, Q j → j < w.heap.size) (hn : In64 now) (hl : ks.length ≤ 10000) (hB : B ≤ w.heap.size) :
    Calls Tryz.prog 11 #[.pointer (some ⟨s, 0, none⟩), .int .i64 now] w (PickRetQ B s ks F now Q w) := by
  have h := hq.at_
  have HQlt := Lib.hid hQ
  clear hQ
  obtain ⟨w1, hw1, hb1, hx1⟩ := itm_box w ⟨0, 0, 0⟩
  have h1 := h.below hb1
  have HQ := Lib.hid hq; have H := Lib.hid h
  clear hq
  have Hb1 := Lib.hid hb1; have Hx1 := Lib.hid hx1; have H1 := Lib.hid h1; have Hl := Lib.hid hl; have HB := Lib.hid hB
  have KA := Lib.hid (fun W => Calls.stay (at_any now W hn))
  have Htag := Lib.hid (show isTag (atF now) from atF_bd now)
  clear hb1 hx1 h1 h hl hB hn
  go_enter Tryz.func11, Tryz.ntmps11
  go_upto_region 2 with (first | (go_at_call 27; refine (KA.out _).mono ?_; rintro e W1 ⟨rfl, rfl⟩))
  obtain ⟨t, ht⟩ : ∃ t, atF now = t := ⟨_, rfl⟩
  rw [show timesF now 65536 = t from ht]
  rw [ht] at Htag
  have Ht := Lib.hid ht
  clear ht hw1 KA
  have KN := Lib.hid (show Calls Tryz.prog 31 #[.pointer (some ⟨s, 0, none⟩), .int .i64 t] W1 (NextRet ks F t W1) by
    obtain ⟨mf, q1, m1, q2, m2, bs, qs, xr, xw, h, hL⟩ := H1.out
    exact next_any B s mf q1 m1 q2 m2 ks bs qs F xr xw t W1 h hL Hl.out)
  go_upto_region 3 with (go_at_call 31; refine KN.out.mono ?_; rintro e w2 ⟨k, ph, ok, rfl, hN, hb2⟩; have HN := Lib.hid hN; have Hb2 := Lib.hid hb2; clear hN hb2)
  clear KN
  have H2 := Lib.hid (H1.out.below Hb2.out)
  have hx2 := (Hb2.out.block _ (Array.getElem?_eq_some_iff.1 Hx1.out).1).trans Hx1.out
  have HX2 := Lib.hid hx2
  have HB2 := Lib.hid (show B ≤ w2.heap.size from Nat.le_trans HB.out (Nat.le_trans Hb1.out.size Hb2.out.size))
  clear hx2
  cases ok with
  | false =>
    go_wp2_with (refine wpList_store_row rfl 30 (.tmp 5) (.tmp 20) rfl w.heap.size #[.int .i64 0, .int .i64 0, .int .i64 0] rfl rfl 30 _ HX2.out item_size rfl (by simp [Value.oneCell']) ?_)
    have t3 : Below w.heap.size w (w2.setRow w.heap.size #[.int .i64 0, .int .i64 0, .int .i64 0]) := (Hb1.out.trans (Hb2.out.mono Hb1.out.size)).trans ⟨rfl, rfl, rfl, by simp, fun k hk => setRow_other _ _ k _ (by omega)⟩
    refine bodyPost_ret (results_pick rfl rfl rfl rfl rfl (setRow_heap _ _ _ _ _ (0, 0) HX2.out) rfl) rfl ?_
    unfold PickRetQ
    refine ⟨0, ⟨0, 0, 0⟩, 0, false, F, rfl, ?_, .of_below t3, fun j cs hj => (t3.block _ (Array.getElem?_eq_some_iff.1 hj).1).trans hj, .inr ⟨rfl, rfl, rfl, rfl, rfl, ?_⟩⟩
    · exact HQ.out.below t3
    · have hN := HN.out
      rw [Ht.out]
      rcases hN with ⟨h, _⟩ | ⟨h, _⟩ | ⟨_, h1, h2, h3⟩
      · cases h
      · cases h
      · exact .inr (.inr ⟨rfl, rfl, rfl, h3⟩)
  | true =>
    obtain ⟨hk, i, r, hq⟩ := HN.out.up
    have Hk := Lib.hid hk; have Hq := Lib.hid hq
    have KT := Lib.hid (take_any B s ks F k ph t i r w2 _ ((HQ.out.below Hb1.out).below Hb2.out) hk hq Htag.out Hl.out HB2.out)
    clear hk hq
    go_wp2_with (first
      | (go_at_call 32; refine KT.out.mono ?_; rintro e w3 ⟨rfl, hA, hK, hI⟩; have HX3 := Lib.hid (hI _ _ HX2.out); have HA := Lib.hid hA; have HK := Lib.hid hK; have HI := Lib.hid hI; clear hA hK hI)
      | (refine wpList_store_row rfl 30 (.tmp 5) (.tmp 26) rfl w.heap.size #[.int .i64 i.na, .int .i64 i.de, .int .i64 i.rh] rfl rfl 30 _ HX3.out item_size rfl (by simp [Value.oneCell']) ?_))
    refine bodyPost_ret (results_pick rfl rfl rfl rfl rfl (setRow_heap _ _ _ _ _ (0, 0) HX3.out) rfl) rfl ?_
    unfold PickRetQ
    have hbx := HA.out.box HX3.out (fun e => Nat.lt_irrefl _ (HQlt.out _ e)) (w' := w3.setRow w.heap.size #[.int .i64 i.na, .int .i64 i.de, .int .i64 i.rh]) ⟨rfl, rfl, rfl, by simp, fun k _ hk => setRow_other _ _ k _ (fun e => hk e)⟩ HB.out
    refine ⟨k, i, ph, true, _, rfl, hbx.1, ?_, fun j cs hj => ?_, .inl ⟨rfl, r, Hk.out, Hq.out, by rw [Ht.out]; exact HN.out, by rw [Ht.out]⟩⟩
    · exact (((KeptS.of_below Hb1.out).trans (.of_below Hb2.out)).trans HK.out).trans hbx.2
    · have hlt := (Array.getElem?_eq_some_iff.1 hj).1
      have e1 := (Hb1.out.block _ hlt).trans hj
      have e2 := (Hb2.out.block _ (Array.getElem?_eq_some_iff.1 e1).1).trans e1
      exact (setRow_other _ _ _ _ (by omega)).trans (HI.out j cs e2)
theorem Pick_any (B s : Nat) (ks : List Int) (F : Int → Fl) (now : Int) (w : World) (h : SchAt w B s ks F) (hn : In64 now) (hl : ks.length ≤ 10000) (hB : B ≤ w.heap.size) :
    Calls Tryz.prog 11 #[.pointer (some ⟨s, 0, none⟩), .int .i64 now] w (PickRet B s ks F now w) :=
  (PickQ_any B s ks F now w _ h.old (fun _ e => e) hn hl hB).mono fun e w' h => by
    obtain ⟨k, i, ph, ok, F', h1, h2, h3⟩ := h
    exact ⟨k, i, ph, ok, F', h1, h2.at_, h3⟩
end Go.Proofs.YtbfjakchgmdldaaGreat
end

section
namespace Go.Proofs.YtbfjakchgmdldaaGreat
open Go.ChangeShapes Go.WideShapes Go.ChangeAt Go.RowKit
set_option linter.unusedVariables false

theorem SchAtQ.rise {w : World} {B s : Nat} {ks : List Int} {F : Int → Fl} {Q : Nat → Prop} (h : SchAtQ w B s ks F Q) : RisingK ks := by
  obtain ⟨mf, q1, m1, q2, m2, bs, qs, xr, xw, h, hL, _⟩ := h
  exact h.rise
theorem SchAtQ.ok {w : World} {B s : Nat} {ks : List Int} {F : Int → Fl} {Q : Nat → Prop} (h : SchAtQ w B s ks F Q) {k : Int} (hk : k ∈ ks) : FlOk (F k) := by
  obtain ⟨mf, q1, m1, q2, m2, bs, qs, xr, xw, h, hL, _⟩ := h
  exact h.ok k hk
theorem SchAtQ.inter {w : World} {B s : Nat} {ks : List Int} {F : Int → Fl} {Q : Nat → Prop} (h : SchAtQ w B s ks F Q) : SchAtQ w B s ks F (fun j => Q j ∧ j < w.heap.size) := by
  obtain ⟨mf, q1, m1, q2, m2, bs, qs, xr, xw, h, hL, hQ⟩ := h
  refine ⟨mf, q1, m1, q2, m2, bs, qs, xr, xw, h, hL, fun k hk j hj => ⟨hQ k hk j hj, ?_⟩⟩
  obtain ⟨_, cs, e3⟩ := h.qblock hk hj
  exact (Array.getElem?_eq_some_iff.1 e3).1
theorem QAt.lt {w : World} {B g : Nat} {v : Value} {l : List Itm} (h : QAt w B v l) (hg : v.ownBlock = some g) : g < w.heap.size := by
  rcases h with ⟨rfl, _⟩ | ⟨g', o, cap, cur, rfl, _, hh, _⟩
  · cases hg
  · injection hg with hg
    subst hg
    exact (Array.getElem?_eq_some_iff.1 hh).1
def PlyAt (w : World) (Z s m : Nat) (xv : Value) (y : List RF) (ks : List Int) (F : Int → Fl) : Prop := ∃ (Q : Nat → Prop) (A : Option Addr) (c : Nat), xv = .slice A y.length c ∧ y.length ≤ m ∧ (y.length ≤ c ∧ c ≤ maxLen) ∧ SchAtQ w Z s ks F Q ∧ (∀ j, Q j → j < w.heap.size) ∧ RefAt w Q A y ∧ Rel ks F y
theorem PlyAt.below {w w' : World} {Z s m : Nat} {xv : Value} {y : List RF} {ks : List Int} {F : Int → Fl} (h : PlyAt w Z s m xv y ks F) (hb : Below w.heap.size w w') : PlyAt w' Z s m xv y ks F := by
  obtain ⟨Q, A, c, e, hm, hc, hs, hQ, hr, hrel⟩ := h
  exact ⟨Q, A, c, e, hm, hc, hs.below hb, fun j hj => Nat.lt_of_lt_of_le (hQ j hj) hb.size, hr.below hb, hrel⟩
theorem PlyAt.more {w : World} {Z s m m' : Nat} {xv : Value} {y : List RF} {ks : List Int} {F : Int → Fl} (h : PlyAt w Z s m xv y ks F) (hm : m ≤ m') : PlyAt w Z s m' xv y ks F := by
  obtain ⟨Q, A, c, e, h1, hr⟩ := h
  exact ⟨Q, A, c, e, Nat.le_trans h1 hm, hr⟩
theorem rising_put {ks : List Int} (h : RisingK ks) {k : Int} (hk : k ∈ ks) : putK ks k = ks := rising_ext (h.put k) h fun j => by
  rw [mem_putK]
  exact ⟨fun e => e.elim (fun e => e ▸ hk) (fun e => e), .inr⟩
section
variable {w w1 w2 : World} {Z s m : Nat} {Q : Nat → Prop} {A A' : Option Addr} {c' : Nat} {y y' : List RF} {ks : List Int} {F : Int → Fl} {k ver e now : Int} {p : Pol} {it : Itm} {en : Ending}
/-- what is needed behind an act, put together -/
theorem ply_mk {ks' : List Int} {F' : Int → Fl} {m' : Nat} (hQ : ∀ j, Q j → j < w.heap.size) (hrow : RowsRet y' w A' c' w1) (hs2 : SchAtQ w2 Z s ks' F' Q) (hk : KeptS Z w1 w2) (hi : KeepI Q w1 w2) (hZ : Z ≤ w.heap.size)
    (hrel : Rel ks' F' y') (hm : y'.length ≤ m') (hq : ∀ r ∈ y', QAt w1 0 (rfQ r) r.f.q ∧ ∀ g, (rfQ r).ownBlock = some g → ¬ Q g) : PlyAt w2 Z s m' (.slice A' y'.length c') y' ks' F' ∧ Below Z w w2 := by
  have hb1 := hrow.2.2
  have hb2 := hk.below (Nat.le_trans hZ hb1.size)
  exact ⟨⟨Q, A', c', rfl, hm, hrow.2.1, hs2, fun j hj => Nat.lt_of_lt_of_le (hQ j hj) (Nat.le_trans hb1.size hb2.size), ⟨hrow.1.kept hk (by unfold TouchS; decide), fun r hr => ⟨(hq r hr).1.items hi (hq r hr).2, (hq r hr).2⟩⟩, hrel⟩, (hb1.mono hZ).trans hb2⟩
theorem set_both (hs : SchAtQ w Z s ks F Q) (hQ : ∀ j, Q j → j < w.heap.size) (hr : RefAt w Q A y) (hrel : Rel ks F y) (hm : y.length ≤ m) (hZ : Z ≤ w.heap.size) (hy : SetY y k ver p e y') (hrow : RowsRet y' w A' c' w1) (h2 : SetRetQ Z s ks F k ver p Q w1 en w2) :
    en = .returned (.int .i64 e) ∧ ∃ ks' F', PlyAt w2 Z s (m + 1) (.slice A' y'.length c') y' ks' F' ∧ Below Z w w2 := by
  obtain ⟨he, hs2, hk, hi⟩ := h2
  have hrs := hs.rise
  have key : setE ks F k ver p = e ∧ Rel (setK ks F k ver p) (setG ks F k ver p) y' ∧ y'.length ≤ m + 1 ∧ ∀ r ∈ y', QAt w 0 (rfQ r) r.f.q ∧ ∀ g, (rfQ r).ownBlock = some g → ¬ Q g := by
    rcases hy with ⟨rfl, rfl, hbad⟩ | ⟨hgood, ⟨rfl, rfl, i, r, hi, rfl, hv⟩ | ⟨rfl, i, r, hi, rfl, hv, rfl⟩ | ⟨rfl, hno, c, hc, hlo, hhi, rfl⟩⟩
    · have e1 : setE ks F k ver p = 1 := if_pos hbad
      refine ⟨e1, ?_, by omega, hr.2⟩
      unfold setK setG
      rw [e1, if_neg (by decide), if_neg (by decide)]
      exact hrel
    · have hat := hrel.at_ hi
      have e1 : setE ks F r.id ver p = 13 := by
        unfold setE
        rw [if_neg hgood, if_pos ⟨hat.1, by rw [hat.2]; exact hv⟩]
      refine ⟨e1, ?_, by omega, hr.2⟩
      unfold setK setG
      rw [e1, if_neg (by decide), if_neg (by decide)]
      exact hrel
    · have hat := hrel.at_ hi
      have e1 : setE ks F r.id ver p = 0 := by
        unfold setE
        rw [if_neg hgood, if_neg (fun h => by rw [hat.2] at h; exact hv h.2)]
      refine ⟨e1, ?_, by rw [List.length_set]; omega, fun r' hr' => ?_⟩
      · have h3 := hrel.set hrs hi (r' := { r with f := setFl r.f ver p }) rfl
        unfold setK setG
        rw [e1, if_pos rfl, if_pos rfl, rising_put hrs hat.1, if_pos hat.1, hat.2]
        exact h3
      · rcases List.mem_or_eq_of_mem_set hr' with h | rfl
        · exact hr.2 r' h
        · exact hr.2 r (List.mem_of_getElem? hi)
    · have hnk : ¬ k ∈ ks := fun h => by
        obtain ⟨r, hr, e⟩ := hrel.mem.1 h
        exact hno r hr e
      have e1 : setE ks F k ver p = 0 := by
        unfold setE
        rw [if_neg hgood, if_neg (fun h => hnk h.1)]
      refine ⟨e1, ?_, ?_, fun r' hr' => ?_⟩
      · unfold setK setG
        rw [e1, if_pos rfl, if_pos rfl, if_neg hnk]
        exact hrel.ins hrs hnk hlo hhi ⟨k, setFl newFl ver p, none, 0⟩ rfl
      · simp only [List.length_append, List.length_take, List.length_drop, List.length_singleton]
        omega
      · simp only [List.mem_append, List.mem_singleton] at hr'
        rcases hr' with (h | rfl) | h
        · exact hr.2 r' (List.mem_of_mem_take h)
        · exact ⟨QAt.nil _ _, fun g hg => by cases hg⟩
        · exact hr.2 r' (List.mem_of_mem_drop h)
  refine ⟨by rw [he, key.1], _, _, ply_mk hQ hrow hs2 hk hi hZ key.2.1 key.2.2.1 fun r hr => ⟨(key.2.2.2 r hr).1.below hrow.2.2, (key.2.2.2 r hr).2⟩⟩
theorem push_both (hs : SchAtQ w Z s ks F Q) (hQ : ∀ j, Q j → j < w.heap.size) (hr : RefAt w Q A y) (hrel : Rel ks F y) (hm : y.length ≤ m) (hZ : Z ≤ w.heap.size) (hy : PushY y k it now w w1 e y') (hrow : RowsRet y' w A' c' w1) (h2 : PushRetQ Z s ks F k now it Q w1 en w2) :
    en = .returned (.int .i64 e) ∧ ∃ ks' F', PlyAt w2 Z s (m + 1) (.slice A' y'.length c') y' ks' F' ∧ Below Z w w2 := by
  obtain ⟨F', he, hs2, hk, hi, hF⟩ := h2
  have hrs := hs.rise
  have hb1 := hrow.2.2
  have hold : ∀ r ∈ y, QAt w1 0 (rfQ r) r.f.q ∧ ∀ g, (rfQ r).ownBlock = some g → ¬ Q g := fun r h => ⟨(hr.2 r h).1.below hb1, (hr.2 r h).2⟩
  have key : pushE ks F k = e ∧ Rel ks F' y' ∧ y'.length ≤ m + 1 ∧ ∀ r ∈ y', QAt w1 0 (rfQ r) r.f.q ∧ ∀ g, (rfQ r).ownBlock = some g → ¬ Q g := by
    rcases hy with ⟨rfl, rfl, hno⟩ | ⟨rfl, rfl, i, r, hi, rfl, hlen⟩ | ⟨rfl, i, r, r', hi, rfl, hlen, rfl, hid, hp, hq', hown⟩
    · have hnk : ¬ k ∈ ks := fun h => by
        obtain ⟨r, hr, e⟩ := hrel.mem.1 h
        exact hno r hr e
      have e1 : pushE ks F k = 7 := if_neg hnk
      refine ⟨e1, ?_, by omega, hold⟩
      rcases hF with ⟨h0, _⟩ | ⟨h0, _⟩ | ⟨_, rfl⟩
      · rw [e1] at h0; exact absurd h0 (by decide)
      · rw [e1] at h0; exact absurd h0 (by decide)
      · exact hrel
    · have hat := hrel.at_ hi
      have hle := (hs.ok hat.1).len
      rw [hat.2] at hle
      have e1 : pushE ks F r.id = 6 := by
        unfold pushE
        rw [if_pos hat.1, hat.2, if_pos (by omega)]
      refine ⟨e1, ?_, by omega, hold⟩
      rcases hF with ⟨h0, _⟩ | ⟨h0, _⟩ | ⟨_, rfl⟩
      · rw [e1] at h0; exact absurd h0 (by decide)
      · rw [e1] at h0; exact absurd h0 (by decide)
      · exact hrel
    · have hat := hrel.at_ hi
      have e1 : pushE ks F r.id = 0 := by
        unfold pushE
        rw [if_pos hat.1, hat.2, if_neg (by omega)]
      refine ⟨e1, ?_, by rw [List.length_set]; omega, fun s hs' => ?_⟩
      · have h3 := hrel.set hrs hi hid
        have e2 : F' = updF F r.id r'.f := by
          rw [hat.2] at hF
          rcases hF with ⟨_, hu, rfl⟩ | ⟨_, hu, l, hl, rfl⟩ | ⟨h0, _⟩
          · rw [upF_iff] at hu
            rcases hp with ⟨_, e⟩ | ⟨h, _⟩
            · rw [e]
            · exact absurd h hu
          · have hu' : r.f.q = [] := by
              by_cases hq : r.f.q = []
              · exact hq
              · rw [(upF_iff _).2 hq] at hu; cases hu
            rcases hp with ⟨h, _⟩ | ⟨_, l', hl', e⟩
            · exact absurd hu' h
            · rw [e, hl.one (hrel.least hl')]
          · exact absurd e1 h0
        rw [e2]
        exact h3
      · rcases List.mem_or_eq_of_mem_set hs' with h | rfl
        · exact hold s h
        · exact ⟨hq', fun g hg hQg => by have h1 := hQ g hQg; have h2 := hown g hg; omega⟩
  have hb2 := hk.below (Nat.le_trans hZ hb1.size)
  refine ⟨by rw [he, key.1], ks, F', ⟨_, A', c', rfl, key.2.2.1, hrow.2.1, hs2.inter, fun j hj => hj.2, ⟨hrow.1.kept hk (by unfold TouchS; decide), fun r hr => ⟨(key.2.2.2 r hr).1.items hi (key.2.2.2 r hr).2, fun g hg hq => ?_⟩⟩, key.2.1⟩, (hb1.mono hZ).trans hb2⟩
  rcases hq.1 with h | h
  · exact (key.2.2.2 r hr).2 g hg h
  · have := (key.2.2.2 r hr).1.lt hg
    omega
theorem drop_has {i : Nat} {r : RF} (hs : SchAtQ w Z s ks F Q) (hQ : ∀ j, Q j → j < w.heap.size) (hr : RefAt w Q A y) (hrel : Rel ks F y) (hm : y.length ≤ m) (hZ : Z ≤ w.heap.size) (hi : y[i]? = some r) (hrow : RowsRet (y.take i ++ y.drop (i + 1)) w A' c' w1) (h2 : SDropRet Z s ks F r.id Q w1 en w2) :
    en = .returned (.int .i64 (r.f.q.length : Int)) ∧ ∃ ks' F', PlyAt w2 Z s (m + 1) (.slice A' (y.take i ++ y.drop (i + 1)).length c') (y.take i ++ y.drop (i + 1)) ks' F' ∧ Below Z w w2 := by
  obtain ⟨he, hs2, hk, hi2⟩ := h2
  have hat := hrel.at_ hi
  refine ⟨?_, _, _, ply_mk hQ hrow hs2 hk hi2 hZ (hrel.out hs.rise hi) ?_ fun r' hr' => ?_⟩
  · rw [he]
    unfold lenF
    rw [if_pos hat.1, hat.2]
  · simp only [List.length_append, List.length_take, List.length_drop]
    omega
  · have h : r' ∈ y := by
      rcases List.mem_append.1 hr' with h | h
      · exact List.mem_of_mem_take h
      · exact List.mem_of_mem_drop h
    exact ⟨(hr.2 r' h).1.below hrow.2.2, (hr.2 r' h).2⟩
theorem drop_no {c : Nat} (hs : SchAtQ w Z s ks F Q) (hQ : ∀ j, Q j → j < w.heap.size) (hr : RefAt w Q A y) (hrel : Rel ks F y) (hm : y.length ≤ m) (hc : y.length ≤ c ∧ c ≤ maxLen) (hZ : Z ≤ w.heap.size) (hno : ∀ r ∈ y, r.id ≠ k) (h2 : SDropRet Z s ks F k Q w en w2) :
    en = .returned (.int .i64 0) ∧ ∃ ks' F', PlyAt w2 Z s (m + 1) (.slice A y.length c) y ks' F' ∧ Below Z w w2 := by
  obtain ⟨he, hs2, hk, hi2⟩ := h2
  have hnk : ¬ k ∈ ks := fun h => by
    obtain ⟨r, hr, e⟩ := hrel.mem.1 h
    exact hno r hr e
  rw [hrel.gone hnk] at hs2
  refine ⟨?_, _, _, ply_mk hQ ⟨hr.1, hc, Below.refl _ _⟩ hs2 hk hi2 hZ hrel (by omega) hr.2⟩
  rw [he]
  unfold lenF
  rw [if_neg hnk]
end
end Go.Proofs.YtbfjakchgmdldaaGreat
end

section
namespace Go.Proofs.YtbfjakchgmdldaaGreat
open Go.ChangeShapes Go.WideShapes Go.ChangeAt Go.RowKit Go.Maps
set_option linter.unusedVariables false
attribute [local go_sem ↓] ldPol_eq stPol_eq ldClk_eq stClk_eq

def polRow (p : Pol) : Array Value := #[.int .i64 p.re, .int .i64 p.we, .int .i64 p.li, .int .i64 p.bu]
theorem there_row {w : World} {g n : Nat} {cs : Array Value} {t : TypeId} (h : w.heap[g]? = some (.cells cs t (0, 0))) (hn : cs.size = n) : w.there g 0 n := fun j hj => by
  refine ⟨?_, row_frozen h _⟩
  rw [row_cell h (0 + j), Array.getElem?_eq_getElem (by omega)]
  rfl
theorem stPol_row {w : World} {g : Nat} {q : Pol} (h : w.heap[g]? = some (.cells (polRow q) 28 (0, 0))) (p : Pol) :
    (stPol (.pointer (some ⟨g, 0, none⟩)) (.agg #[.int .i64 p.re, .int .i64 p.we, .int .i64 p.li, .int .i64 p.bu])).run Tryz.prog w = .ok () (w.setCells g 0 (polCells p)) ∧ (w.setCells g 0 (polCells p)).heap[g]? = some (.cells (polRow p) 28 (0, 0)) :=
  ⟨run_storeAt_mid w g 0 28 #[.int .i64 p.re, .int .i64 p.we, .int .i64 p.li, .int .i64 p.bu] (there_row h rfl) pol_info (by simp [Value.oneCell']),
    row_set (row_set (row_set (row_set h 0 (.int .i64 p.re)) 1 (.int .i64 p.we)) 2 (.int .i64 p.li)) 3 (.int .i64 p.bu)⟩
theorem stClk_row {w : World} {g : Nat} {d : Clk} (h : w.heap[g]? = some (.cells (clkRow d) 46 (0, 0))) (c : Clk) :
    (stClk (.pointer (some ⟨g, 0, none⟩)) (.agg #[.int .i64 c.r, .int .i64 c.p, .int .i64 c.l])).run Tryz.prog w = .ok () (w.setCells g 0 (clkCells c)) ∧ (w.setCells g 0 (clkCells c)).heap[g]? = some (.cells (clkRow c) 46 (0, 0)) :=
  ⟨run_storeAt_mid w g 0 46 #[.int .i64 c.r, .int .i64 c.p, .int .i64 c.l] (there_row h rfl) clk_info (by simp [Value.oneCell']),
    row_set (row_set (row_set h 0 (.int .i64 c.r)) 1 (.int .i64 c.p)) 2 (.int .i64 c.l)⟩
theorem results_get {fn : Func} {p q r u : Tmp} (h : fn.results = #[.tmp p, .cell q 28, .cell r 46, .tmp u]) {tmps : Array Value} {W : World} {a b : Nat} {x : Value} {ok : Value} {pl : Pol} {c : Clk} (hp : tmps.getD p undef = x) (hq : tmps.getD q undef = .pointer (some ⟨a, 0, none⟩)) (hr : tmps.getD r undef = .pointer (some ⟨b, 0, none⟩)) (hu : tmps.getD u undef = ok)
    (ha : W.heap[a]? = some (.cells (polRow pl) 28 (0, 0))) (hb : W.heap[b]? = some (.cells (clkRow c) 46 (0, 0))) : (results fn tmps).run Tryz.prog W = .ok (.tuple #[x, .agg (polRow pl), .agg (clkRow c), ok]) W := by
  have e2 := run_loadVar_row W a 28 28 (polRow pl) (0, 0) _ ha Tryz.underlying28 rfl pol_info
  have e3 := run_loadVar_row W b 46 46 (clkRow c) (0, 0) _ hb Tryz.underlying46 rfl clk_info
  simp only [Array.getD_eq_getD_getElem?] at hp hq hr hu
  simp [results, h, hp, hq, hr, hu, asAddr, e2, e3]
/-- what Get hands back -/
def GetRet (ks : List Int) (F : Int → Fl) (k : Int) (w : World) (en : Ending) (w' : World) : Prop :=
  ∃ v p c ok, en = .returned (.tuple #[.int .i64 v, .agg (polRow p), .agg (clkRow c), .bool ok]) ∧ ((k ∈ ks ∧ v = (F k).ver ∧ p = (F k).p ∧ c = (F k).c ∧ ok = true) ∨ (¬ k ∈ ks ∧ v = 0 ∧ p = ⟨0, 0, 0, 0⟩ ∧ c = ⟨0, 0, 0⟩ ∧ ok = false)) ∧ Below w.heap.size w w'
theorem get_boxes (w : World) : ∃ W, (w.alloc (.cells #[.int .i64 0, .int .i64 0, .int .i64 0, .int .i64 0] 28)).alloc (.cells #[.int .i64 0, .int .i64 0, .int .i64 0] 46) = W ∧ Below w.heap.size w W ∧ W.heap[w.heap.size]? = some (.cells (polRow ⟨0, 0, 0, 0⟩) 28 (0, 0)) ∧ W.heap[w.heap.size + 1]? = some (.cells (clkRow ⟨0, 0, 0⟩) 46 (0, 0)) :=
  ⟨_, rfl, below_two _ _ _, heap_two0 _ _ _, heap_two _ _ _⟩
set_option maxRecDepth 100000 in
set_option maxHeartbeats 4000000 in
theorem Get_has (B s : Nat) (ks : List Int) (F : Int → Fl) (k : Int) (w : World) (H : SchAt w B s ks F) (hk : k ∈ ks) :
    Calls Tryz.prog 15 #[.pointer (some ⟨s, 0, none⟩), .int .i64 k] w (GetRet ks F k w) := by
  obtain ⟨mf, q1, m1, q2, m2, bs, qs, xr, xw, h, hL⟩ := H
  obtain ⟨w1, hw1, hb1, hp1, hc1⟩ := get_boxes w
  have hbd := h.bd k hk
  have h1 := h.below hb1
  obtain ⟨A1, c1, A2, c2, hrow⟩ := h1.row
  have a0 : w1.cell? ⟨s, 0, none⟩ = some (.map (some mf)) := row_cell hrow 0
  obtain ⟨g, hg⟩ : ∃ g, bs k = g := ⟨_, rfl⟩
  obtain ⟨f, hf⟩ : ∃ f, F k = f := ⟨_, rfl⟩
  have hst := (h1.st k hk).2.1
  have hok := h1.ok k hk
  rw [hg, hf] at hst
  rw [hf] at hok
  have hst : IsSt w1 g f (qs k) := hst
  have hgw : g < w.heap.size := by rw [← hg]; exact (Array.getElem?_eq_some_iff.1 (h.st k hk).2.1).1
  have d0 := hst.c0
  obtain ⟨sp, hp2⟩ := stPol_row (w := w1.drew) hp1 f.p
  obtain ⟨w2, hw2⟩ : ∃ w2, w1.drew.setCells w.heap.size 0 (polCells f.p) = w2 := ⟨_, rfl⟩
  rw [hw2] at sp hp2
  have t2 : Turned (fun j => j = w.heap.size) w1 w2 := by rw [← hw2]; exact turned_cells (p := fun j => j = w.heap.size) (fun _ => rfl) _ _ _ (Turned.of_below (Below.refl _ _).drew)
  have hst2 : IsSt w2 g f (qs k) := t2.heap hst (by omega)
  have d2 := hst2.c0
  obtain ⟨sc, hc2⟩ := stClk_row (w := w2) (t2.heap hc1 (by omega)) f.c
  have l1 := ldPol_run (w := w1.drew) (hst.polAt hok.pol)
  have l2 := ldClk_at (w := w1.drew) hst
  have l3 := ldClk_at (w := w2) hst2
  have Hp2 := Lib.hid hp2; have Hc2 := Lib.hid hc2; have T2 := Lib.hid t2; have Hb1 := Lib.hid hb1; have Hbd := Lib.hid hbd; have Hk := Lib.hid hk; have H1 := Lib.hid h1; have Hg := Lib.hid hg; have Hf := Lib.hid hf
  clear hp2 hc2 t2 hb1 hbd hk h1 hg hf hst hst2 hrow hok hp1 hc1 h hL hw2
  go_enter Tryz.func15, Tryz.ntmps15
  go_upto_region 4 with (refine wpList_lookP rfl (.tmp 13) (.tmp 14) rfl mf ks bs k rfl rfl H1.out.flows (by have := Hbd.out; omega) (by have := Hbd.out; omega) ?_; rw [decide_eq_true Hk.out, ptrV_some Hk.out, Hg.out])
  go_region
  all_goals
    go_wp2
    have t3 : Turned (fun j => j = w.heap.size + 1) w2 (w2.setCells (w.heap.size + 1) 0 (clkCells f.c)) := turned_cells (p := fun j => j = w.heap.size + 1) (fun _ => rfl) _ _ _ (Turned.refl _ _)
    refine bodyPost_ret (results_get rfl rfl rfl rfl rfl (t3.heap Hp2.out (by omega)) Hc2.out) rfl ?_
    unfold GetRet
    refine ⟨f.ver, f.p, f.c, true, rfl, .inl ⟨Hk.out, by rw [Hf.out], by rw [Hf.out], by rw [Hf.out], rfl⟩, ?_⟩
    exact Hb1.out.trans ((T2.out.below (fun j e => by rw [e]; exact Nat.le_refl _) Hb1.out.size).trans (t3.below (fun j e => by rw [e]; omega) (Nat.le_trans Hb1.out.size T2.out.size)))
set_option maxRecDepth 100000 in
set_option maxHeartbeats 4000000 in
theorem Get_no (B s : Nat) (ks : List Int) (F : Int → Fl) (k : Int) (w : World) (H : SchAt w B s ks F) (hk : ¬ k ∈ ks) (hi : In64 k) :
    Calls Tryz.prog 15 #[.pointer (some ⟨s, 0, none⟩), .int .i64 k] w (GetRet ks F k w) := by
  obtain ⟨mf, q1, m1, q2, m2, bs, qs, xr, xw, h, hL⟩ := H
  obtain ⟨w1, hw1, hb1, hp1, hc1⟩ := get_boxes w
  have h1 := h.below hb1
  obtain ⟨A1, c1, A2, c2, hrow⟩ := h1.row
  have a0 : w1.cell? ⟨s, 0, none⟩ = some (.map (some mf)) := row_cell hrow 0
  obtain ⟨sp, hp2⟩ := stPol_row (w := w1) hp1 ⟨0, 0, 0, 0⟩
  obtain ⟨w2, hw2⟩ : ∃ w2, w1.setCells w.heap.size 0 (polCells ⟨0, 0, 0, 0⟩) = w2 := ⟨_, rfl⟩
  rw [hw2] at sp hp2
  have t2 : Turned (fun j => j = w.heap.size) w1 w2 := by rw [← hw2]; exact turned_cells (p := fun j => j = w.heap.size) (fun _ => rfl) _ _ _ (Turned.refl _ _)
  obtain ⟨sc, hc2⟩ := stClk_row (w := w2) (t2.heap hc1 (by omega)) ⟨0, 0, 0⟩
  have Hp2 := Lib.hid hp2; have Hc2 := Lib.hid hc2; have T2 := Lib.hid t2; have Hb1 := Lib.hid hb1; have Hk := Lib.hid hk; have H1 := Lib.hid h1; have Hi := Lib.hid hi
  clear hp2 hc2 t2 hb1 hk h1 hrow hp1 hc1 h hL hw2 hi
  go_enter Tryz.func15, Tryz.ntmps15
  go_wp2_with (refine wpList_lookP rfl (.tmp 13) (.tmp 14) rfl mf ks bs k rfl rfl H1.out.flows Hi.out.1 Hi.out.2 ?_; rw [decide_eq_false Hk.out, ptrV_none Hk.out])
  have t3 : Turned (fun j => j = w.heap.size + 1) w2 (w2.setCells (w.heap.size + 1) 0 (clkCells ⟨0, 0, 0⟩)) := turned_cells (p := fun j => j = w.heap.size + 1) (fun _ => rfl) _ _ _ (Turned.refl _ _)
  refine bodyPost_ret (results_get rfl rfl rfl rfl rfl (t3.heap Hp2.out (by omega)) Hc2.out) rfl ?_
  unfold GetRet
  refine ⟨0, ⟨0, 0, 0, 0⟩, ⟨0, 0, 0⟩, false, rfl, .inr ⟨Hk.out, rfl, rfl, rfl, rfl⟩, ?_⟩
  exact Hb1.out.trans ((T2.out.below (fun j e => by rw [e]; exact Nat.le_refl _) Hb1.out.size).trans (t3.below (fun j e => by rw [e]; omega) (Nat.le_trans Hb1.out.size T2.out.size)))
theorem Get_any (B s : Nat) (ks : List Int) (F : Int → Fl) (k : Int) (w : World) (H : SchAt w B s ks F) (hi : In64 k) :
    Calls Tryz.prog 15 #[.pointer (some ⟨s, 0, none⟩), .int .i64 k] w (GetRet ks F k w) := by
  by_cases hk : k ∈ ks
  · exact Get_has B s ks F k w H hk
  · exact Get_no B s ks F k w H hk hi

/-- a new scheduler -/
theorem new_sched (w : World) (F : Int → Fl) : SchAt ((w.alloc (.map #[] 0)).alloc (.cells #[.map (some w.heap.size), .slice none 0 0, .map none, .slice none 0 0, .map none] 63)) w.heap.size (w.heap.size + 1) [] F := by
  have hrow : ((w.alloc (.map #[] 0)).alloc (.cells #[.map (some w.heap.size), .slice none 0 0, .map none, .slice none 0 0, .map none] 63)).heap[w.heap.size + 1]? = some (.cells #[.map (some w.heap.size), .slice none 0 0, .map none, .slice none 0 0, .map none] 63 (0, 0)) := heap_two w _ _
  refine ⟨w.heap.size, none, none, none, none, fun _ => 0, fun _ => .slice none 0 0, [], [], ⟨by omega, Nat.le_refl _, ⟨.slice none 0 0, .map none, ?_⟩, ⟨.slice none 0 0, .map none, ?_⟩, ?_, fun k hk => (by cases hk), fun j hj => (by cases hj), fun j hj => (by cases hj), ⟨fun e => (by cases e), fun e => (by cases e), fun g e => (by cases e)⟩, fun g e => (by cases e), List.Pairwise.nil, fun k hk => (by cases hk), fun k hk => (by cases hk)⟩, Lists.nil F⟩
  · exact HeapAt.zero (h := homeR (w.heap.size + 1) w.heap.size (.slice none 0 0) (.map none)) (by show w.heap.size ≤ w.heap.size + 1; omega) hrow
  · exact HeapAt.zero (h := homeW (w.heap.size + 1) w.heap.size (.slice none 0 0) (.map none)) (by show w.heap.size ≤ w.heap.size + 1; omega) hrow
  · exact (FlowsAt.made w _).below (below_box _ _)
def NewRet (w : World) (en : Ending) (w' : World) : Prop := en = .returned (.pointer (some ⟨w.heap.size + 1, 0, none⟩)) ∧ SchAt w' w.heap.size (w.heap.size + 1) [] (fun _ => newFl) ∧ Below w.heap.size w w'
theorem New_any (w : World) : Calls Tryz.prog 5 #[] w (NewRet w) := by
  have hmm := @run_makeMap Tryz.prog
  go_enter Tryz.func5, Tryz.ntmps5
  go_wp2
  go_ret
  unfold NewRet
  exact ⟨rfl, new_sched w _, below_two _ _ _⟩
end Go.Proofs.YtbfjakchgmdldaaGreat
end

section
namespace Go.Proofs.YtbfjakchgmdldaaGreat
open Go.ChangeShapes Go.WideShapes Go.ChangeAt Go.RowKit
set_option linter.unusedVariables false

def awP1 : Pol := ⟨1000, 1, 0, 0⟩
def awP0 : Pol := ⟨0, 9, 0, 0⟩
def awF1 : Int → Fl := updF (fun _ => newFl) 1 (setFl newFl 0 awP1)
def awF2 : Int → Fl := updF awF1 0 (setFl newFl 0 awP0)
def awI0 : Itm := ⟨5, 0, 0⟩
def awI1 : Itm := ⟨6, 0, 0⟩
def awF3 : Int → Fl := updF awF2 0 (wokeFl (awF2 0) 3 0 awI0)
def awF4 : Int → Fl := updF awF3 1 (wokeFl (awF3 1) 3 0 awI1)
def awF5 : Int → Fl := updF awF4 1 (takenFl (awF4 1) (atF 3) 1 awI1 [])
theorem aw1 (Z s : Nat) (W : World) (H : SchAt W Z s [] (fun _ => newFl)) (hB : Z ≤ W.heap.size) :
    Calls Tryz.prog 7 #[.pointer (some ⟨s, 0, none⟩), .int .i64 1, .int .i64 0, .agg #[.int .i64 1000, .int .i64 1, .int .i64 0, .int .i64 0]] W (fun e w' => e = .returned (.int .i64 0) ∧ SchAt w' Z s [1] awF1 ∧ KeptS Z W w') :=
  SSet_any Z s [] (fun _ => newFl) 1 0 awP1 W H (by unfold In64; decide) (by unfold In64; decide) (by unfold InP In64 awP1; decide) (by decide) hB
theorem aw2 (Z s : Nat) (W : World) (H : SchAt W Z s [1] awF1) (hB : Z ≤ W.heap.size) :
    Calls Tryz.prog 7 #[.pointer (some ⟨s, 0, none⟩), .int .i64 0, .int .i64 0, .agg #[.int .i64 0, .int .i64 9, .int .i64 0, .int .i64 0]] W (fun e w' => e = .returned (.int .i64 0) ∧ SchAt w' Z s [0, 1] awF2 ∧ KeptS Z W w') :=
  SSet_any Z s [1] awF1 0 0 awP0 W H (by unfold In64; decide) (by unfold In64; decide) (by unfold InP In64 awP0; decide) (by decide) hB
theorem aw3 (Z s : Nat) (W : World) (H : SchAt W Z s [0, 1] awF2) (hB : Z ≤ W.heap.size) :
    Calls Tryz.prog 9 #[.pointer (some ⟨s, 0, none⟩), .int .i64 0, .agg #[.int .i64 5, .int .i64 0, .int .i64 0], .int .i64 3] W (fun e w' => e = .returned (.int .i64 0) ∧ SchAt w' Z s [0, 1] awF3 ∧ KeptS Z W w') := by
  refine (SPush_any Z s [0, 1] awF2 0 3 awI0 W H (by unfold In64; decide) (by unfold InT In64 awI0; decide) (by unfold In64; decide) (by decide) hB).mono ?_
  rintro e w' ⟨F', rfl, h1, h2, h3⟩
  have e0 : pushE [0, 1] awF2 0 = 0 := by decide
  rw [e0] at *
  refine ⟨rfl, ?_, h2⟩
  rcases h3 with ⟨_, h, _⟩ | ⟨_, _, l, hl, rfl⟩ | ⟨h, _⟩
  · exact absurd h (by decide)
  · rcases hl with ⟨_, rfl⟩ | ⟨j, hj, hu, _⟩
    · exact h1
    · exfalso
      revert hu
      rcases List.mem_cons.1 hj with rfl | hj
      · decide
      · rcases List.mem_cons.1 hj with rfl | hj
        · decide
        · cases hj
  · exact absurd rfl h
theorem aw4 (Z s : Nat) (W : World) (H : SchAt W Z s [0, 1] awF3) (hB : Z ≤ W.heap.size) :
    Calls Tryz.prog 9 #[.pointer (some ⟨s, 0, none⟩), .int .i64 1, .agg #[.int .i64 6, .int .i64 0, .int .i64 0], .int .i64 3] W (fun e w' => e = .returned (.int .i64 0) ∧ SchAt w' Z s [0, 1] awF4 ∧ KeptS Z W w') := by
  refine (SPush_any Z s [0, 1] awF3 1 3 awI1 W H (by unfold In64; decide) (by unfold InT In64 awI1; decide) (by unfold In64; decide) (by decide) hB).mono ?_
  rintro e w' ⟨F', rfl, h1, h2, h3⟩
  have e0 : pushE [0, 1] awF3 1 = 0 := by decide
  rw [e0] at *
  refine ⟨rfl, ?_, h2⟩
  rcases h3 with ⟨_, h, _⟩ | ⟨_, _, l, hl, rfl⟩ | ⟨h, _⟩
  · exact absurd h (by decide)
  · rcases hl with ⟨h, _⟩ | ⟨j, hj, hu, rfl, _⟩
    · exact absurd (h 0 (by decide)) (by decide)
    · rcases List.mem_cons.1 hj with rfl | hj
      · exact h1
      · rcases List.mem_cons.1 hj with rfl | hj
        · exact absurd hu (by decide)
        · cases hj
  · exact absurd rfl h
theorem two_of {P : Int → Prop} {j : Int} (hj : j ∈ [(0 : Int), 1]) : (j = 0) ∨ (j = 1) := by
  rcases List.mem_cons.1 hj with rfl | hj
  · exact .inl rfl
  · rcases List.mem_cons.1 hj with rfl | hj
    · exact .inr rfl
    · cases hj
def AwPick (Z s : Nat) (F : Int → Fl) (k ph : Int) (i : Itm) (W : World) (e : Ending) (w' : World) : Prop :=
  e = .returned (.tuple #[.int .i64 k, .agg #[.int .i64 i.na, .int .i64 i.de, .int .i64 i.rh], .int .i64 ph, .bool true]) ∧ SchAt w' Z s [0, 1] F ∧ KeptS Z W w' ∧ ∀ (j : Nat) (cs : Array Value), W.heap[j]? = some (.cells cs 30 (0, 0)) → w'.heap[j]? = some (.cells cs 30 (0, 0))
theorem aw5 (Z s : Nat) (W : World) (H : SchAt W Z s [0, 1] awF4) (hB : Z ≤ W.heap.size) :
    Calls Tryz.prog 11 #[.pointer (some ⟨s, 0, none⟩), .int .i64 3] W (AwPick Z s awF5 1 1 awI1 W) := by
  refine (Pick_any Z s [0, 1] awF4 3 W H (by unfold In64; decide) (by decide) hB).mono ?_
  rintro e w' ⟨k, i, ph, ok, F', rfl, h1, h2, h3, h4⟩
  have hdue : Due [0, 1] awF4 (atF 3) 1 := ⟨by decide, by decide, by decide⟩
  have hd0 : ¬ Due [0, 1] awF4 (atF 3) 0 := fun h => absurd h.2.2 (by decide)
  rcases h4 with ⟨rfl, r, hk, hq, hn, rfl⟩ | ⟨_, _, _, _, _, hn⟩
  · have hkp : k = 1 ∧ ph = 1 := by
      rcases hn with ⟨_, h, hf⟩ | ⟨_, _, h, _⟩ | ⟨h, _⟩
      · refine ⟨?_, h⟩
        rcases two_of (P := fun _ => True) hk with rfl | h
        · exact absurd hf.1 hd0
        · exact h
      · exact absurd hdue (h 1)
      · cases h
    obtain ⟨rfl, rfl⟩ := hkp
    have hq2 : (awF4 1).q = [awI1] := by decide
    rw [hq2] at hq
    injection hq with hi hr
    subst hi; subst hr
    exact ⟨rfl, h1, h2, h3⟩
  · rcases hn with ⟨h, _⟩ | ⟨h, _⟩ | ⟨_, _, _, h⟩
    · cases h
    · cases h
    · exact absurd (due_free hdue) (h 1)
theorem aw6 (Z s : Nat) (W : World) (H : SchAt W Z s [0, 1] awF5) (hB : Z ≤ W.heap.size) :
    Calls Tryz.prog 11 #[.pointer (some ⟨s, 0, none⟩), .int .i64 3] W (fun e w' => ∃ F, AwPick Z s F 0 2 awI0 W e w') := by
  refine (Pick_any Z s [0, 1] awF5 3 W H (by unfold In64; decide) (by decide) hB).mono ?_
  rintro e w' ⟨k, i, ph, ok, F', rfl, h1, h2, h3, h4⟩
  have hfree : Free [0, 1] awF5 (atF 3) 0 := ⟨by decide, by decide, by decide⟩
  have hnd : ∀ j, ¬ Due [0, 1] awF5 (atF 3) j := fun j h => by
    rcases two_of (P := fun _ => True) h.1 with rfl | rfl
    · exact absurd h.2.2 (by decide)
    · exact absurd h.2.1 (by decide)
  rcases h4 with ⟨rfl, r, hk, hq, hn, rfl⟩ | ⟨_, _, _, _, _, hn⟩
  · have hkp : k = 0 ∧ ph = 2 := by
      rcases hn with ⟨_, _, hf⟩ | ⟨_, h, _, hf⟩ | ⟨h, _⟩
      · exact absurd hf.1 (hnd k)
      · refine ⟨?_, h⟩
        rcases two_of (P := fun _ => True) hk with h | rfl
        · exact h
        · exact absurd hf.1.2.1 (by decide)
      · cases h
    obtain ⟨rfl, rfl⟩ := hkp
    have hq2 : (awF5 0).q = [awI0] := by decide
    rw [hq2] at hq
    injection hq with hi hr
    subst hi; subst hr
    exact ⟨_, rfl, h1, h2, h3⟩
  · rcases hn with ⟨h, _⟩ | ⟨h, _⟩ | ⟨_, _, _, h⟩
    · cases h
    · cases h
    · exact absurd hfree (h 0)
set_option maxRecDepth 100000 in
set_option maxHeartbeats 2000000 in
theorem awake_any (w : World) : Calls Tryz.prog 4 #[] w fun e w' => e = .returned (.bool true) ∧ Below w.heap.size w w' := by
  obtain ⟨Z, hZ⟩ : ∃ Z, w.heap.size = Z := ⟨_, rfl⟩
  have KN := Lib.hid (New_any w)
  unfold NewRet at KN
  rw [hZ] at KN
  have HZ := Lib.hid hZ
  clear hZ
  go_enter Tryz.func4, Tryz.ntmps4
  go_upto_region 4 with (first
    | (go_at_call 9; refine (aw4 Z (Z + 1) _ HA4.out (by have := Hb4.out.size; have := HZ.out; omega)).mono ?_; rintro e w5 ⟨rfl, hA, hk⟩; have HA5 := Lib.hid hA; have Hb5 := Lib.hid (Hb4.out.trans (hk.below (by have := Hb4.out.size; have := HZ.out; omega))); clear hA hk)
    | (go_at_call 9; refine (aw3 Z (Z + 1) _ HA3.out (by have := Hb3.out.size; have := HZ.out; omega)).mono ?_; rintro e w4 ⟨rfl, hA, hk⟩; have HA4 := Lib.hid hA; have Hb4 := Lib.hid (Hb3.out.trans (hk.below (by have := Hb3.out.size; have := HZ.out; omega))); clear hA hk)
    | (go_at_call 7; refine (aw2 Z (Z + 1) _ HA2.out (by have := Hb2.out.size; have := HZ.out; omega)).mono ?_; rintro e w3 ⟨rfl, hA, hk⟩; have HA3 := Lib.hid hA; have Hb3 := Lib.hid (Hb2.out.trans (hk.below (by have := Hb2.out.size; have := HZ.out; omega))); clear hA hk)
    | (go_at_call 7; refine (aw1 Z (Z + 1) _ HA.out (by have := Hb1.out.size; have := HZ.out; omega)).mono ?_; rintro e w2 ⟨rfl, hA, hk⟩; have HA2 := Lib.hid hA; have Hb2 := Lib.hid (Hb1.out.trans (hk.below (by have := Hb1.out.size; have := HZ.out; omega))); clear hA hk)
    | (go_at_call 5; refine KN.out.mono ?_; rintro e w1 ⟨rfl, hA, hb1⟩; have HA := Lib.hid hA; have Hb1 := Lib.hid hb1; clear hA hb1))
  clear HA HA2 HA3 HA4 Hb1 Hb2 Hb3 Hb4 KN
  go_upto_region 5 with (go_at_call 11; refine (aw5 Z (Z + 1) _ HA5.out (by have := Hb5.out.size; have := HZ.out; omega)).mono ?_; rintro e w6 ⟨rfl, hA, hk, hi⟩; have HA6 := Lib.hid hA; have Hb6 := Lib.hid (Hb5.out.trans (hk.below (by have := Hb5.out.size; have := HZ.out; omega))); clear hA hk hi)
  change Code.wp _ _ _ _ (w6.alloc (.cells #[.int .i64 6, .int .i64 0, .int .i64 0] 30))
  obtain ⟨w7, hw7, hb7, hx7⟩ := itm_box w6 awI1
  change w6.alloc (.cells #[.int .i64 6, .int .i64 0, .int .i64 0] 30) = w7 at hw7
  rw [hw7]
  have HA7 := Lib.hid (HA6.out.below hb7)
  have Hb7 := Lib.hid (Hb6.out.trans (hb7.mono (by have := Hb6.out.size; have := HZ.out; omega)))
  have Hx7 := Lib.hid hx7
  clear hw7 hb7 hx7
  go_upto_region 6 with (go_at_call 11; refine (aw6 Z (Z + 1) _ HA7.out (by have := Hb7.out.size; have := HZ.out; omega)).mono ?_; rintro e w8 ⟨F, rfl, hA, hk, hi⟩; have Hb8 := Lib.hid (Hb7.out.trans (hk.below (by have := Hb7.out.size; have := HZ.out; omega))); have Hx8 := Lib.hid (hi _ _ Hx7.out); clear hA hk hi)
  change Code.wp _ _ _ _ (w8.alloc (.cells #[.int .i64 5, .int .i64 0, .int .i64 0] 30))
  have hx9 := (below_box w8 (.cells #[.int .i64 5, .int .i64 0, .int .i64 0] 30)).block w6.heap.size (Array.getElem?_eq_some_iff.1 Hx8.out).1
  rw [Hx8.out] at hx9
  have k1 : (w8.alloc (.cells #[.int .i64 5, .int .i64 0, .int .i64 0] 30)).cell? ⟨w6.heap.size, 0, none⟩ = some (.int .i64 6) := row_cell hx9 0
  have Hb9 := Lib.hid (Hb8.out.trans ((below_box w8 (.cells #[.int .i64 5, .int .i64 0, .int .i64 0] 30)).mono (by have := Hb8.out.size; have := HZ.out; omega)))
  generalize w8.alloc (.cells #[.int .i64 5, .int .i64 0, .int .i64 0] 30) = w9 at k1 Hb9 ⊢
  clear hx9
  go_wp2_with fail
  go_ret
  refine ⟨rfl, ?_⟩
  rw [HZ.out]
  exact Hb9.out
end Go.Proofs.YtbfjakchgmdldaaGreat
end

section
namespace Go.Proofs.YtbfjakchgmdldaaGreat
open Go.ChangeShapes Go.WideShapes Go.ChangeAt Go.RowKit
set_option linter.unusedVariables false

theorem row_keep {w w' : World} {g : Nat} {o : Obj} (h : w.heap[g]? = some o) (hb : Below w.heap.size w w') : w'.heap[g]? = some o := (hb.block g (Array.getElem?_eq_some_iff.1 h).1).trans h
/-- last is the version of the one flow; -1: there is none -/
def VerOk (ks : List Int) (F : Int → Fl) (last : Int) : Prop := (ks = [] ∧ last = -1) ∨ (ks = [4] ∧ 0 ≤ last ∧ last = (F 4).ver)
theorem ver_set {ks : List Int} {F : Int → Fl} {last : Int} (hv : VerOk ks F last) (x : Int) {u : Pol} (hr : rightP u = true) :
    (setE ks F 4 x u = 1 ∧ x < 0 ∧ setK ks F 4 x u = ks ∧ setG ks F 4 x u = F) ∨ (setE ks F 4 x u = 13 ∧ 0 ≤ x ∧ x < last ∧ ks = [4] ∧ setK ks F 4 x u = ks ∧ setG ks F 4 x u = F) ∨
      (setE ks F 4 x u = 0 ∧ 0 ≤ x ∧ last ≤ x ∧ setK ks F 4 x u = [4] ∧ (setG ks F 4 x u 4).ver = x ∧ (setG ks F 4 x u 4).p = u) := by
  by_cases hx : x < 0
  · have e : setE ks F 4 x u = 1 := if_pos (.inr (.inl hx))
    exact .inl ⟨e, hx, if_neg (by rw [e]; decide), if_neg (by rw [e]; decide)⟩
  · have hn : ¬ ((4 : Int) < 0 ∨ x < 0 ∨ rightP u = false) := by rw [hr]; simp; omega
    have hc : setE ks F 4 x u = 0 → last ≤ x → setK ks F 4 x u = [4] ∧ (setG ks F 4 x u 4).ver = x ∧ (setG ks F 4 x u 4).p = u := fun e _ => by
      refine ⟨?_, ?_, ?_⟩
      · unfold setK
        rw [if_pos e]
        rcases hv with ⟨rfl, _⟩ | ⟨rfl, _⟩ <;> rfl
      · unfold setG; rw [if_pos e, updF_same]; rfl
      · unfold setG; rw [if_pos e, updF_same]; rfl
    rcases hv with ⟨rfl, rfl⟩ | ⟨rfl, h0, hl⟩
    · have e : setE [] F 4 x u = 0 := by unfold setE; rw [if_neg hn, if_neg (by simp)]
      exact .inr (.inr ⟨e, by omega, by omega, hc e (by omega)⟩)
    · by_cases hlt : x < last
      · have e : setE [4] F 4 x u = 13 := by unfold setE; rw [if_neg hn, if_pos ⟨by decide, by omega⟩]
        exact .inr (.inl ⟨e, by omega, hlt, rfl, if_neg (by rw [e]; decide), if_neg (by rw [e]; decide)⟩)
      · have e : setE [4] F 4 x u = 0 := by unfold setE; rw [if_neg hn, if_neg (by omega)]
        exact .inr (.inr ⟨e, by omega, by omega, hc e (by omega)⟩)
/-- what Get tells of flow 4: its version, its policy -/
def Tells (ks : List Int) (F : Int → Fl) (v : Int) (p : Pol) (ok : Bool) : Prop := (ks = [] ∧ ok = false) ∨ (ks = [4] ∧ v = (F 4).ver ∧ p = (F 4).p ∧ ok = true)
theorem tells_none {F : Int → Fl} {v : Int} {p : Pol} {ok : Bool} (h : Tells [] F v p ok) : ok = false := by
  rcases h with ⟨_, h⟩ | ⟨h, _⟩
  · exact h
  · cases h
theorem tells_is {F : Int → Fl} {v : Int} {p : Pol} {ok : Bool} (h : Tells [4] F v p ok) : v = (F 4).ver ∧ p = (F 4).p ∧ ok = true := by
  rcases h with ⟨h, _⟩ | ⟨_, h1, h2, h3⟩
  · cases h
  · exact ⟨h1, h2, h3⟩
theorem ver_get {W : World} {Z s : Nat} {ks : List Int} {F : Int → Fl} (H : SchAt W Z s ks F) (hks : ks = [] ∨ ks = [4]) :
    Calls Tryz.prog 15 #[.pointer (some ⟨s, 0, none⟩), .int .i64 4] W (fun e w' => ∃ (v : Int) (p : Pol) (c : Clk) (ok : Bool), e = .returned (.tuple #[.int .i64 v, .agg #[.int .i64 p.re, .int .i64 p.we, .int .i64 p.li, .int .i64 p.bu], .agg #[.int .i64 c.r, .int .i64 c.p, .int .i64 c.l], .bool ok]) ∧ Tells ks F v p ok ∧ InP p ∧ Below W.heap.size W w') := by
  refine (Get_any Z s ks F 4 W H (by unfold In64; decide)).mono ?_
  rintro e w' ⟨v, p, c, ok, rfl, h, hb⟩
  refine ⟨v, p, c, ok, rfl, ?_, ?_, hb⟩
  · rcases h with ⟨h, h1, h2, _, h3⟩ | ⟨h, _, _, _, h3⟩
    · rcases hks with rfl | rfl
      · cases h
      · exact .inr ⟨rfl, h1, h2, h3⟩
    · rcases hks with rfl | rfl
      · exact .inl ⟨rfl, h3⟩
      · exact absurd (by decide) h
  · rcases h with ⟨h, _, rfl, _⟩ | ⟨_, _, rfl, _⟩
    · exact (H.ok 4 h).pol
    · unfold InP In64; decide
/-- a box, filled -/
theorem pol_store {w : World} {g : Nat} {q : Pol} (h : w.heap[g]? = some (.cells (polRow q) 28 (0, 0))) (p : Pol) : ∃ W,
    (stPol (.pointer (some ⟨g, 0, none⟩)) (.agg #[.int .i64 p.re, .int .i64 p.we, .int .i64 p.li, .int .i64 p.bu])).run Tryz.prog w = .ok () W ∧ Turned (fun j => j = g) w W ∧ W.heap[g]? = some (.cells (polRow p) 28 (0, 0)) :=
  ⟨_, (stPol_row h p).1, turned_cells (p := fun j => j = g) (fun _ => rfl) _ _ _ (Turned.refl _ _), (stPol_row h p).2⟩
theorem use_store (w : World) (p q : Pol) : ∃ W W',
    (stPol (.pointer (some ⟨w.heap.size, 0, none⟩)) (.agg #[.int .i64 p.re, .int .i64 p.we, .int .i64 p.li, .int .i64 p.bu])).run Tryz.prog (w.alloc (.cells #[.int .i64 0, .int .i64 0, .int .i64 0, .int .i64 0] 28)) = .ok () W ∧ Below w.heap.size w W ∧ W.heap[w.heap.size]? = some (.cells (polRow p) 28 (0, 0)) ∧
    (stPol (.pointer (some ⟨w.heap.size, 0, none⟩)) (.agg #[.int .i64 q.re, .int .i64 q.we, .int .i64 q.li, .int .i64 q.bu])).run Tryz.prog W = .ok () W' ∧ Below w.heap.size w W' ∧ W'.heap[w.heap.size]? = some (.cells (polRow q) 28 (0, 0)) := by
  have b0 := below_box w (.cells #[.int .i64 0, .int .i64 0, .int .i64 0, .int .i64 0] 28)
  obtain ⟨W, h1, t1, r1⟩ := pol_store (q := ⟨0, 0, 0, 0⟩) (heap_alloc_new w (.cells #[.int .i64 0, .int .i64 0, .int .i64 0, .int .i64 0] 28)) p
  obtain ⟨W', h2, t2, r2⟩ := pol_store r1 q
  have b1 := b0.trans (t1.below (fun j e => by rw [e]; exact Nat.le_refl _) b0.size)
  exact ⟨W, W', h1, b1, r1, h2, b1.trans (t2.below (fun j e => by rw [e]; exact Nat.le_refl _) b1.size), r2⟩
/-- two boxes, filled -/
theorem get_store (w : World) (p : Pol) (c : Clk) : ∃ W2 W3,
    (stPol (.pointer (some ⟨w.heap.size, 0, none⟩)) (.agg #[.int .i64 p.re, .int .i64 p.we, .int .i64 p.li, .int .i64 p.bu])).run Tryz.prog ((w.alloc (.cells #[.int .i64 0, .int .i64 0, .int .i64 0, .int .i64 0] 28)).alloc (.cells #[.int .i64 0, .int .i64 0, .int .i64 0] 46)) = .ok () W2 ∧
    (stClk (.pointer (some ⟨w.heap.size + 1, 0, none⟩)) (.agg #[.int .i64 c.r, .int .i64 c.p, .int .i64 c.l])).run Tryz.prog W2 = .ok () W3 ∧ Below w.heap.size w W3 ∧ W3.heap[w.heap.size]? = some (.cells (polRow p) 28 (0, 0)) := by
  obtain ⟨W, hW, hb, h0, h1⟩ := get_boxes w
  rw [hW]
  have t2 : Turned (fun j => j = w.heap.size) W (W.setCells w.heap.size 0 (polCells p)) := turned_cells (p := fun j => j = w.heap.size) (fun _ => rfl) _ _ _ (Turned.refl _ _)
  have h1' := t2.heap h1 (by omega)
  have t3 : Turned (fun j => j = w.heap.size + 1) (W.setCells w.heap.size 0 (polCells p)) ((W.setCells w.heap.size 0 (polCells p)).setCells (w.heap.size + 1) 0 (clkCells c)) := turned_cells (p := fun j => j = w.heap.size + 1) (fun _ => rfl) _ _ _ (Turned.refl _ _)
  have hs := (stPol_row h0 p).2
  exact ⟨_, _, (stPol_row h0 p).1, (stClk_row h1' c).1, hb.trans ((t2.below (fun j e => by rw [e]; exact Nat.le_refl _) hb.size).trans (t3.below (fun j e => by rw [e]; omega) (Nat.le_trans hb.size t2.size))), t3.heap hs (by omega)⟩
end Go.Proofs.YtbfjakchgmdldaaGreat
end

section
namespace Go.Proofs.YtbfjakchgmdldaaGreat
open Go.ChangeShapes Go.WideShapes Go.ChangeAt Go.RowKit
set_option linter.unusedVariables false

section
variable {w w1 w2 : World} {Z s m : Nat} {Q : Nat → Prop} {A A' : Option Addr} {c' : Nat} {y y' : List RF} {ks : List Int} {F : Int → Fl} {id ph now : Int} {it : Itm} {en : Ending}
theorem pick_both (hs : SchAtQ w Z s ks F Q) (hQ : ∀ j, Q j → j < w.heap.size) (hr : RefAt w Q A y) (hrel : Rel ks F y) (hm : y.length ≤ m) (hZ : Z ≤ w.heap.size) (hy : PickY y now w1 id it ph y') (hrow : RowsRet y' w A' c' w1) (h2 : PickRetQ Z s ks F now Q w1 en w2) :
    (∃ b, en = .returned (.tuple #[.int .i64 id, .agg #[.int .i64 it.na, .int .i64 it.de, .int .i64 it.rh], .int .i64 ph, .bool b]) ∧ ((b = true ∧ 0 < ph) ∨ (b = false ∧ ph = 0))) ∧ ∃ ks' F', PlyAt w2 Z s (m + 1) (.slice A' y'.length c') y' ks' F' ∧ Below Z w w2 := by
  obtain ⟨k2, i2, ph2, ok, F', he, hs2, hk, hit, hp⟩ := h2
  have hi : KeepI Q w1 w2 := fun j cs _ e => hit j cs e
  have hb1 := hrow.2.2
  have hold : ∀ r ∈ y, QAt w1 0 (rfQ r) r.f.q ∧ ∀ g, (rfQ r).ownBlock = some g → ¬ Q g := fun r h => ⟨(hr.2 r h).1.below hb1, (hr.2 r h).2⟩
  rcases hy with ⟨rfl, rfl, rfl, rfl, hnd, hnf⟩ | ⟨i, r, r', rest, hir, hn, rfl, hqr, rfl, hid, hrf, hq', hown⟩
  · rcases hp with ⟨rfl, r, hk2, hq2, hn2, _⟩ | ⟨rfl, rfl, rfl, rfl, rfl, _⟩
    · exfalso
      obtain ⟨s, hsm, rfl⟩ := hrel.mem.1 hk2
      rcases hn2 with ⟨_, _, hf⟩ | ⟨_, _, _, hf⟩ | ⟨h, _⟩
      · exact hnd s hsm ((hrel.due hsm _).1 hf.1)
      · exact hnf s hsm ((hrel.free hsm _).1 hf.1)
      · cases h
    · exact ⟨⟨false, he, .inr ⟨rfl, rfl⟩⟩, _, _, ply_mk hQ hrow hs2 hk hi hZ hrel (by omega) hold⟩
  · have hat := hrel.at_ hir
    have hn1 := hrel.next hs.rise hir hn
    rcases hp with ⟨rfl, rr, hk2, hq2, hn2, hF⟩ | ⟨rfl, _, _, _, _, hn2⟩
    · obtain ⟨e1, e2⟩ := hn1.one hn2
      subst e1 e2
      rw [hat.2, hqr] at hq2
      injection hq2 with e1 e2
      subst e1 e2
      refine ⟨⟨true, he, .inl ⟨rfl, ?_⟩⟩, _, _, ply_mk hQ hrow hs2 hk hi hZ ?_ (by rw [List.length_set]; omega) fun s hs' => ?_⟩
      · rcases hn with ⟨e, _⟩ | ⟨e, _⟩ <;> omega
      · have h3 := hrel.set hs.rise hir hid
        rw [hrf] at h3
        rw [hF, hat.2]
        exact h3
      · rcases List.mem_or_eq_of_mem_set hs' with h | rfl
        · exact hold s h
        · refine ⟨by rw [hrf]; exact hq', fun g hg => (hr.2 r (List.mem_of_getElem? hir)).2 g (hown g hg)⟩
    · exact (hn1.not_both hn2).elim
end
end Go.Proofs.YtbfjakchgmdldaaGreat
end

section
namespace Go.Proofs.YtbfjakchgmdldaaGreat
open Go.ChangeShapes Go.WideShapes Go.ChangeAt Go.RowKit
set_option linter.unusedVariables false

structure Act7 where
  t : Int
  fl : Int
  ver : Int
  now : Int
  p : Pol
  i : Itm
def act7V (a : Act7) : List Value := [.int .i64 a.t, .int .i64 a.fl, .int .i64 a.ver, .int .i64 a.now, .int .i64 a.p.re, .int .i64 a.p.we, .int .i64 a.p.li, .int .i64 a.p.bu, .int .i64 a.i.na, .int .i64 a.i.de, .int .i64 a.i.rh]
def Act7In (a : Act7) : Prop := In64 a.t ∧ In64 a.fl ∧ In64 a.ver ∧ In64 a.now ∧ InP a.p ∧ InT a.i
/-- the act a at ⟨g, q⟩ -/
def Act7At (w : World) (g q : Nat) (a : Act7) : Prop := w.rangeAt g q (act7V a) ∧ Act7In a
/-- the slice that begins at A reads as l -/
def Acts7At (w : World) (A : Option Addr) (l : List Act7) : Prop :=
  l = [] ∨ ∃ g o, A = some ⟨g, o, none⟩ ∧ ∀ i a, l[i]? = some a → Act7At w g (o + i * 11) a
theorem Act7At.below {w w' : World} {g q : Nat} {a : Act7} (h : Act7At w g q a) (hb : Below w.heap.size w w') : Act7At w' g q a :=
  ⟨fun j v hv => by rw [hb.cell (block_lt_of_cell (h.1 j v hv))]; exact h.1 j v hv, h.2⟩
theorem Acts7At.below {w w' : World} {A : Option Addr} {l : List Act7} (h : Acts7At w A l) (hb : Below w.heap.size w w') : Acts7At w' A l := by
  rcases h with rfl | ⟨g, o, hA, hc⟩
  · exact .inl rfl
  · exact .inr ⟨g, o, hA, fun i a ha => (hc i a ha).below hb⟩
theorem Acts7At.get {w : World} {A : Option Addr} {l : List Act7} (h : Acts7At w A l) {k : Nat} (hk : k < l.length) : ∃ g o a, A = some ⟨g, o, none⟩ ∧ l[k]? = some a ∧ Act7At w g (o + k * 11) a := by
  rcases h with rfl | ⟨g, o, hA, hc⟩
  · simp at hk
  · exact ⟨g, o, l[k], hA, List.getElem?_eq_getElem hk, hc k _ (List.getElem?_eq_getElem hk)⟩

section
variable {H : Type} {enc : TypeId × Value → H} {P : Program}
theorem ints_of {W : World} {base : Nat} {spare : Bool} {n : Nat} {x : Value} {y : DataW H × List MemPlace} {t : TypeId} (i0 : P.underlying t = some (.int .i64)) (h : DataW.trod enc P W base (fun _ => true) spare n t [x] = some y) : ∃ v, x = .int .i64 v ∧ In64 v := by
  obtain ⟨v, hb, _, hw⟩ := DataW.trod_int i0 h
  simp only [List.cons.injEq, and_true] at hb
  have k := bounds_i64 hw
  exact ⟨v, hb, k.1, k.2⟩
theorem open_acts7 {W : World} {base : Nat} {v : Value} {d : DataW H} {p : List MemPlace} {tl te tp ti : TypeId} {fs gs hs : Array Field} {f0 f1 f2 f3 f4 f5 g0 g1 g2 g3 h0 h1 h2 : Field} (hl : P.underlying tl = some (.slice te)) (he : P.underlying te = some (.struct fs)) (hf : fs = #[f0, f1, f2, f3, f4, f5])
    (hp : P.underlying tp = some (.struct gs)) (hg : gs = #[g0, g1, g2, g3]) (hi : P.underlying ti = some (.struct hs)) (hh : hs = #[h0, h1, h2]) (t4 : f4.type = tp) (t5 : f5.type = ti)
    (o : f0.offset = 0 ∧ f1.offset = 1 ∧ f2.offset = 2 ∧ f3.offset = 3 ∧ f4.offset = 4 ∧ f5.offset = 8) (og : g0.offset = 0 ∧ g1.offset = 1 ∧ g2.offset = 2 ∧ g3.offset = 3) (oh : h0.offset = 0 ∧ h1.offset = 1 ∧ h2.offset = 2)
    {tz : TypeId} (iz : P.underlying tz = some (.int .i64)) (cz : P.cellsOf tz = 1) (ft : f0.type = tz ∧ f1.type = tz ∧ f2.type = tz ∧ f3.type = tz) (gt : g0.type = tz ∧ g1.type = tz ∧ g2.type = tz ∧ g3.type = tz) (ht : h0.type = tz ∧ h1.type = tz ∧ h2.type = tz)
    (cp : P.cellsOf tp = 4) (ci : P.cellsOf ti = 3) (ce : P.cellsOf te = 11) (hval : Value.okWide P W .any base tl v) (h : DataW.Trod enc P W 0 (fun _ => true) true tl v d p) :
    ∃ A n c, ∃ l : List Act7, v = .slice A n c ∧ l.length = n ∧ n ≤ c ∧ c ≤ maxLen ∧ Acts7At W A l := by
  subst hf hg hh
  obtain ⟨a1, len, cap, rfl⟩ := okWide_slice hl hval
  obtain ⟨fuel, hf⟩ := h
  rcases Go.Deep.open_slice hl hf with ⟨hcs, hx⟩ | ⟨a, len', cap', m, n, D, Pl, hcs, _, hl1, hl2, hm, hx, hel⟩
  · simp [Value.cells] at hcs
    obtain ⟨rfl, rfl, rfl⟩ := hcs
    exact ⟨none, 0, 0, [], rfl, rfl, Nat.le_refl _, Nat.zero_le _, .inl rfl⟩
  · simp [Value.cells] at hcs
    obtain ⟨rfl, rfl, rfl⟩ := hcs
    simp only [if_true] at hm
    rw [ce] at hel
    by_cases hz : len = 0
    · subst hz
      exact ⟨some a, 0, cap, [], rfl, rfl, by omega, hl2, .inl rfl⟩
    have hspot : a.spot = none := by
      obtain ⟨cs', hc, _⟩ := hel 0 (by omega)
      obtain ⟨_, hcl, hat⟩ := World.cells?_some hc
      have h3 := hat 0 (by omega)
      rw [List.getElem?_eq_getElem (by omega)] at h3
      obtain ⟨g, o, sp⟩ := a
      simpa [Addr.add] using World.cell?_spot h3
    obtain ⟨g, oo, sp⟩ := a
    simp only at hspot
    subst hspot
    obtain ⟨l, hll, hlp⟩ := list_of (n := len) (p := fun i f => Act7At W g (oo + i * 11) f) (fun i hi' => by
      obtain ⟨cs', hc, ht'⟩ := hel i (by omega)
      obtain ⟨_, hcl, hat⟩ := World.cells?_some hc
      obtain ⟨xs, n', _, _, _, hxl, hgt⟩ := DataW.trod_struct he ht'
      have hs' : ∀ j, j < 6 → j < xs.length := fun j hj => by rw [hxl]; exact hj
      have e0 := hgt 0 f0 rfl
      have e1 := hgt 1 f1 rfl
      have e2 := hgt 2 f2 rfl
      have e3 := hgt 3 f3 rfl
      have e4 := hgt 4 f4 rfl
      have e5 := hgt 5 f5 rfl
      rw [o.1, ft.1, cz, List.getElem?_eq_getElem (hs' 0 (by omega))] at e0
      rw [o.2.1, ft.2.1, cz, List.getElem?_eq_getElem (hs' 1 (by omega))] at e1
      rw [o.2.2.1, ft.2.2.1, cz, List.getElem?_eq_getElem (hs' 2 (by omega))] at e2
      rw [o.2.2.2.1, ft.2.2.2, cz, List.getElem?_eq_getElem (hs' 3 (by omega))] at e3
      rw [o.2.2.2.2.1, t4, cp, List.getElem?_eq_getElem (hs' 4 (by omega))] at e4
      rw [o.2.2.2.2.2, t5, ci, List.getElem?_eq_getElem (hs' 5 (by omega))] at e5
      match cs', hcl with
      | [x0, x1, x2, x3, x4, x5, x6, x7, x8, x9, x10], _ =>
        simp only [List.drop_zero, List.take_succ_cons, List.take_zero, List.drop_succ_cons] at e0 e1 e2 e3 e4 e5
        obtain ⟨ys, ny, _, _, _, hyl, hgy⟩ := DataW.trod_struct hp e4
        obtain ⟨zs, nz, _, _, _, hzl, hgz⟩ := DataW.trod_struct hi e5
        have hsy : ∀ j, j < 4 → j < ys.length := fun j hj => by rw [hyl]; exact hj
        have hsz : ∀ j, j < 3 → j < zs.length := fun j hj => by rw [hzl]; exact hj
        have p0 := hgy 0 g0 rfl
        have p1 := hgy 1 g1 rfl
        have p2 := hgy 2 g2 rfl
        have p3 := hgy 3 g3 rfl
        rw [og.1, gt.1, cz, List.getElem?_eq_getElem (hsy 0 (by omega))] at p0
        rw [og.2.1, gt.2.1, cz, List.getElem?_eq_getElem (hsy 1 (by omega))] at p1
        rw [og.2.2.1, gt.2.2.1, cz, List.getElem?_eq_getElem (hsy 2 (by omega))] at p2
        rw [og.2.2.2, gt.2.2.2, cz, List.getElem?_eq_getElem (hsy 3 (by omega))] at p3
        have q0 := hgz 0 h0 rfl
        have q1 := hgz 1 h1 rfl
        have q2 := hgz 2 h2 rfl
        rw [oh.1, ht.1, cz, List.getElem?_eq_getElem (hsz 0 (by omega))] at q0
        rw [oh.2.1, ht.2.1, cz, List.getElem?_eq_getElem (hsz 1 (by omega))] at q1
        rw [oh.2.2, ht.2.2, cz, List.getElem?_eq_getElem (hsz 2 (by omega))] at q2
        simp only [List.drop_zero, List.take_succ_cons, List.take_zero, List.drop_succ_cons] at p0 p1 p2 p3 q0 q1 q2
        obtain ⟨v0, rfl, k0⟩ := ints_of iz e0
        obtain ⟨v1, rfl, k1⟩ := ints_of iz e1
        obtain ⟨v2, rfl, k2⟩ := ints_of iz e2
        obtain ⟨v3, rfl, k3⟩ := ints_of iz e3
        obtain ⟨v4, rfl, k4⟩ := ints_of iz p0
        obtain ⟨v5, rfl, k5⟩ := ints_of iz p1
        obtain ⟨v6, rfl, k6⟩ := ints_of iz p2
        obtain ⟨v7, rfl, k7⟩ := ints_of iz p3
        obtain ⟨v8, rfl, k8⟩ := ints_of iz q0
        obtain ⟨v9, rfl, k9⟩ := ints_of iz q1
        obtain ⟨v10, rfl, k10⟩ := ints_of iz q2
        refine ⟨⟨v0, v1, v2, v3, ⟨v4, v5, v6, v7⟩, ⟨v8, v9, v10⟩⟩, fun j u hu => ?_, k0, k1, k2, k3, ⟨k4, k5, k6, k7⟩, k8, k9, k10⟩
        have hj : j < 11 := (List.getElem?_eq_some_iff.1 hu).1
        have hq := hat j hj
        simp only [Addr.add_lit] at hq
        rw [hq]
        exact hu)
    exact ⟨_, len, cap, l, rfl, hll, hl1, hl2, .inr ⟨g, oo, rfl, hlp⟩⟩
end
end Go.Proofs.YtbfjakchgmdldaaGreat
end

section
namespace Go.Proofs.YtbfjakchgmdldaaGreat
open Go.ChangeShapes Go.WideShapes Go.ChangeAt Go.RowKit
set_option linter.unusedVariables false

def actR (t fl ver nw : Int) (p : Pol) (i : Itm) : Array Value := #[.int .i64 t, .int .i64 fl, .int .i64 ver, .int .i64 nw, .int .i64 p.re, .int .i64 p.we, .int .i64 p.li, .int .i64 p.bu, .int .i64 i.na, .int .i64 i.de, .int .i64 i.rh]
theorem act7_info : (Tryz.prog.info? 32).map (·.size) = some 11 := by kernel_rfl
def ldAct (p : Value) : Sem Value := Instr.loadAt 32 p
theorem ldAct_eq (p : Value) : Instr.loadAt 32 p = ldAct p := rfl
theorem ldAct_run {w : World} {g o : Nat} {t fl ver nw : Int} {p : Pol} {i : Itm} (h : Act7At w g o ⟨t, fl, ver, nw, p, i⟩) :
    (ldAct (.pointer (some ⟨g, o, none⟩))).run Tryz.prog w = .ok (.agg #[.int .i64 t, .int .i64 fl, .int .i64 ver, .int .i64 nw, .int .i64 p.re, .int .i64 p.we, .int .i64 p.li, .int .i64 p.bu, .int .i64 i.na, .int .i64 i.de, .int .i64 i.rh]) w :=
  run_loadAt_mid w g o 32 (act7V ⟨t, fl, ver, nw, p, i⟩) _ h.1 Tryz.underlying32 rfl act7_info
theorem zAct_run (w : World) : (zeroValue 32).run Tryz.prog w = .ok (.agg #[.int .i64 0, .int .i64 0, .int .i64 0, .int .i64 0, .int .i64 0, .int .i64 0, .int .i64 0, .int .i64 0, .int .i64 0, .int .i64 0, .int .i64 0]) w := by kernel_rfl
/-- an act in a variable at g -/
def IsAct (w : World) (g : Nat) (t fl ver nw : Int) (p : Pol) (i : Itm) : Prop := w.heap[g]? = some (.cells (actR t fl ver nw p i) 32 (0, 0))
section
variable {w w' : World} {g : Nat} {t fl ver nw : Int} {p : Pol} {i : Itm}
theorem IsAct.below (h : IsAct w g t fl ver nw p i) (hb : Below w.heap.size w w') : IsAct w' g t fl ver nw p i := (hb.block g (Array.getElem?_eq_some_iff.1 h).1).trans h
theorem IsAct.kept {B : Nat} (h : IsAct w g t fl ver nw p i) (hk : KeptS B w w') : IsAct w' g t fl ver nw p i := hk.heap h (by unfold TouchS; decide)
theorem IsAct.c0 (h : IsAct w g t fl ver nw p i) : w.cell? ⟨g, 0, none⟩ = some (.int .i64 t) := row_cell h 0
theorem IsAct.c1 (h : IsAct w g t fl ver nw p i) : w.cell? ⟨g, 1, none⟩ = some (.int .i64 fl) := row_cell h 1
theorem IsAct.c2 (h : IsAct w g t fl ver nw p i) : w.cell? ⟨g, 2, none⟩ = some (.int .i64 ver) := row_cell h 2
theorem IsAct.c3 (h : IsAct w g t fl ver nw p i) : w.cell? ⟨g, 3, none⟩ = some (.int .i64 nw) := row_cell h 3
theorem IsAct.pol (h : IsAct w g t fl ver nw p i) (hp : InP p) : (ldPol (.pointer (some ⟨g, 4, none⟩))).run Tryz.prog w = .ok (.agg #[.int .i64 p.re, .int .i64 p.we, .int .i64 p.li, .int .i64 p.bu]) w :=
  ldPol_run ⟨row_cell h 4, row_cell h 5, row_cell h 6, row_cell h 7, hp⟩
theorem IsAct.itm (h : IsAct w g t fl ver nw p i) : (ldItm (.pointer (some ⟨g, 8, none⟩))).run Tryz.prog w = .ok (.agg #[.int .i64 i.na, .int .i64 i.de, .int .i64 i.rh]) w :=
  ldItm_run (row_cell h 8) (row_cell h 9) (row_cell h 10)
end
end Go.Proofs.YtbfjakchgmdldaaGreat
end

section
namespace Go.Proofs.YtbfjakchgmdldaaGreat
open Go.ChangeShapes Go.WideShapes Go.ChangeAt Go.RowKit
set_option linter.unusedVariables false

theorem get_store2 (w : World) (p : Pol) (c : Clk) : ∃ W2 W3,
    (stPol (.pointer (some ⟨w.heap.size, 0, none⟩)) (.agg #[.int .i64 p.re, .int .i64 p.we, .int .i64 p.li, .int .i64 p.bu])).run Tryz.prog ((w.alloc (.cells #[.int .i64 0, .int .i64 0, .int .i64 0, .int .i64 0] 28)).alloc (.cells #[.int .i64 0, .int .i64 0, .int .i64 0] 46)) = .ok () W2 ∧
    (stClk (.pointer (some ⟨w.heap.size + 1, 0, none⟩)) (.agg #[.int .i64 c.r, .int .i64 c.p, .int .i64 c.l])).run Tryz.prog W2 = .ok () W3 ∧ Below w.heap.size w W3 ∧ W3.heap[w.heap.size]? = some (.cells (polRow p) 28 (0, 0)) ∧ W3.heap[w.heap.size + 1]? = some (.cells (clkRow c) 46 (0, 0)) := by
  obtain ⟨W, hW, hb, h0, h1⟩ := get_boxes w
  rw [hW]
  have t2 : Turned (fun j => j = w.heap.size) W (W.setCells w.heap.size 0 (polCells p)) := turned_cells (p := fun j => j = w.heap.size) (fun _ => rfl) _ _ _ (Turned.refl _ _)
  have h1' := t2.heap h1 (by omega)
  have t3 : Turned (fun j => j = w.heap.size + 1) (W.setCells w.heap.size 0 (polCells p)) ((W.setCells w.heap.size 0 (polCells p)).setCells (w.heap.size + 1) 0 (clkCells c)) := turned_cells (p := fun j => j = w.heap.size + 1) (fun _ => rfl) _ _ _ (Turned.refl _ _)
  have hs := (stPol_row h0 p).2
  exact ⟨_, _, (stPol_row h0 p).1, (stClk_row h1' c).1, hb.trans ((t2.below (fun j e => by rw [e]; exact Nat.le_refl _) hb.size).trans (t3.below (fun j e => by rw [e]; omega) (Nat.le_trans hb.size t2.size))), t3.heap hs (by omega), (stClk_row h1' c).2⟩
theorem ply_get {W : World} {Z s : Nat} {ks : List Int} {F : Int → Fl} (k : Int) (H : SchAt W Z s ks F) (hk : In64 k) :
    Calls Tryz.prog 15 #[.pointer (some ⟨s, 0, none⟩), .int .i64 k] W (fun e w' => ∃ (v : Int) (p : Pol) (c : Clk) (ok : Bool), e = .returned (.tuple #[.int .i64 v, .agg #[.int .i64 p.re, .int .i64 p.we, .int .i64 p.li, .int .i64 p.bu], .agg #[.int .i64 c.r, .int .i64 c.p, .int .i64 c.l], .bool ok]) ∧ ((k ∈ ks ∧ v = (F k).ver ∧ p = (F k).p ∧ c = (F k).c ∧ ok = true) ∨ (¬ k ∈ ks ∧ ok = false)) ∧ Below W.heap.size W w') := by
  refine (Get_any Z s ks F k W H hk).mono ?_
  rintro e w' ⟨v, p, c, ok, rfl, h, hb⟩
  exact ⟨v, p, c, ok, rfl, h.imp (fun h => h) (fun h => ⟨h.1, h.2.2.2.2⟩), hb⟩
theorem PickY.more {y : List RF} {now : Int} {w1 w2 : World} {id ph : Int} {it : Itm} {y' : List RF} (h : PickY y now w1 id it ph y') (hb : Below w1.heap.size w1 w2) : PickY y now w2 id it ph y' := by
  rcases h with h | ⟨i, r, r', rest, h1, h2, h3, h4, h5, h6, h7, h8, h9⟩
  · exact .inl h
  · exact .inr ⟨i, r, r', rest, h1, h2, h3, h4, h5, h6, h7, h8.below hb, h9⟩
theorem RowsRet.more {y : List RF} {w w1 w2 : World} {A : Option Addr} {c : Nat} (h : RowsRet y w A c w1) (hb : Below w1.heap.size w1 w2) : RowsRet y w A c w2 := ⟨h.1.below hb, h.2.1, h.2.2.trans (hb.mono h.2.2.size)⟩
theorem get_found {ks : List Int} {F : Int → Fl} {k v : Int} {p : Pol} {c : Clk} {ok : Bool} {f : Fl} (h : (k ∈ ks ∧ v = (F k).ver ∧ p = (F k).p ∧ c = (F k).c ∧ ok = true) ∨ (¬ k ∈ ks ∧ ok = false)) (hk : k ∈ ks) (hf : F k = f) : v = f.ver ∧ p = f.p ∧ c = f.c ∧ ok = true := by
  rcases h with ⟨_, h⟩ | ⟨h, _⟩
  · rw [hf] at h; exact h
  · exact absurd hk h
theorem get_none {ks : List Int} {F : Int → Fl} {k v : Int} {p : Pol} {c : Clk} {ok : Bool} (h : (k ∈ ks ∧ v = (F k).ver ∧ p = (F k).p ∧ c = (F k).c ∧ ok = true) ∨ (¬ k ∈ ks ∧ ok = false)) (hk : ¬ k ∈ ks) : ok = false := by
  rcases h with ⟨h, _⟩ | ⟨_, h⟩
  · exact absurd h hk
  · exact h
theorem lenF_in {ks : List Int} {F : Int → Fl} {k : Int} {f : Fl} (hk : k ∈ ks) (hf : F k = f) : lenF ks F k = (f.q.length : Int) := by unfold lenF; rw [if_pos hk, hf]
theorem lenF_no {ks : List Int} {F : Int → Fl} {k : Int} (hk : ¬ k ∈ ks) : lenF ks F k = 0 := by unfold lenF; rw [if_neg hk]
/-- a Picked, in a variable -/
def pkRow (A : Option Addr) (n c : Nat) (id : Int) (it : Itm) (ph : Int) : Array Value := #[.slice A n c, .int .i64 id, .int .i64 it.na, .int .i64 it.de, .int .i64 it.rh, .int .i64 ph]
theorem pk_res (w : World) (A : Option Addr) (n c : Nat) (id : Int) (it : Itm) (ph : Int) : ∃ W, w.alloc (.cells #[.slice A n c, .int .i64 id, .int .i64 it.na, .int .i64 it.de, .int .i64 it.rh, .int .i64 ph] 40) = W ∧ Below w.heap.size w W ∧ W.heap[w.heap.size]? = some (.cells (pkRow A n c id it ph) 40 (0, 0)) := ⟨_, rfl, below_box _ _, heap_alloc_new w _⟩
/-- what region 36 loads, of a flow that is there -/
def FoundS (g b1 b2 ga q : Nat) (fl : Int) (r : RF) (w : World) : Prop :=
  w.cell? ⟨g, 1, none⟩ = some (.int .i64 fl) ∧ (ldPol (.pointer (some ⟨b1, 0, none⟩))).run Tryz.prog w = .ok (.agg #[.int .i64 r.f.p.re, .int .i64 r.f.p.we, .int .i64 r.f.p.li, .int .i64 r.f.p.bu]) w ∧ (ldClk (.pointer (some ⟨b2, 0, none⟩))).run Tryz.prog w = .ok (.agg #[.int .i64 r.f.c.r, .int .i64 r.f.c.p, .int .i64 r.f.c.l]) w ∧
    w.cell? ⟨ga, q + 1, none⟩ = some (.int .i64 r.f.ver) ∧ (ldPol (.pointer (some ⟨ga, q + 2, none⟩))).run Tryz.prog w = .ok (.agg #[.int .i64 r.f.p.re, .int .i64 r.f.p.we, .int .i64 r.f.p.li, .int .i64 r.f.p.bu]) w ∧ (ldClk (.pointer (some ⟨ga, q + 6, none⟩))).run Tryz.prog w = .ok (.agg #[.int .i64 r.f.c.r, .int .i64 r.f.c.p, .int .i64 r.f.c.l]) w ∧ w.cell? ⟨ga, q + 9, none⟩ = some (.slice r.A r.f.q.length r.c)
theorem found_s {W W' : World} {g b1 b2 ga o i : Nat} {t fl ver nw : Int} {p : Pol} {it : Itm} {y : List RF} {r : RF} (ha : IsAct W g t fl ver nw p it) (h1 : W.heap[b1]? = some (.cells (polRow r.f.p) 28 (0, 0))) (h2 : W.heap[b2]? = some (.cells (clkRow r.f.c) 46 (0, 0)))
    (hs : Seen W (some ⟨ga, o, none⟩) (rfsV y)) (hi : y[i]? = some r) (hp : InP r.f.p) (hb : Below W.heap.size W W') : FoundS g b1 b2 ga (o + i * 10) fl r W' := by
  have hrf := rf_at (hs.below hb) hi
  exact ⟨(ha.below hb).c1, ldPol_run (pol_of_row (row_keep h1 hb) hp), ldClk_run (show ClkAt W' b2 r.f.c from row_keep h2 hb), hrf 1 _ rfl, rf_ldPol hrf hp, rf_ldClk hrf, hrf 9 _ rfl⟩
end Go.Proofs.YtbfjakchgmdldaaGreat
end

section
namespace Go.Proofs.YtbfjakchgmdldaaGreat
open Go.ChangeShapes Go.WideShapes Go.ChangeAt Go.RowKit Go.Maps Go.Shelf
set_option linter.unusedVariables false

/-- the world behind maps.Keys -/
def boxedP (w : World) (m : Nat) : World := w.alloc (.cells #[.map (some m)] 57)
theorem KeysP_any (m : Nat) (w : World) :
    Calls Tryz.prog 35 #[.map (some m)] w fun e w' => e = .returned (.func (.func 50) #[] #[.pointer (some ⟨w.heap.size, 0, none⟩)]) ∧ w' = boxedP w m :=
  (callsIn_wide (n := 5)).1 (AnyZI.keys_in Tryz.keysA Fence.wide 5 trivial rfl (some m) w)
theorem sortsP (m : Nat) : AnyZI.SortsIn Tryz.prog Tryz.sortedA_ren Fence.wide m :=
  ⟨fun blk off cap ss W hH hblk hsz => callsIn_wide.2 (AnyM.slices_Sort_int Tryz.sortA blk off cap ss W hH hblk hsz),
   fun p cap W => callsIn_wide.2 (AnyM.slices_Sort_int_none Tryz.sortA p cap W)⟩
theorem ptrD_keys (x : List Int) (b : Int → Nat) : intKeys (ptrD x b) = x := by
  unfold ptrD intKeys
  simp only [encP, List.map_map, Function.comp_def]
  exact List.map_id x
theorem SortedP_any (m : Nat) (ks : List Int) (b : Int → Nat) (w : World) (h : FlowsAt w m ks b) (hl : ks.length ≤ 1000000) :
    Calls Tryz.prog 34 #[.func (.func 50) #[] #[.pointer (some ⟨w.heap.size, 0, none⟩)]] (boxedP w m) fun e w' =>
      ∃ A c, e = .returned (.slice A ks.length c) ∧ Below w.heap.size w w' := by
  have hlt := World.ownsMap.lt h
  obtain ⟨es, clock, hb, F, hs, hD⟩ := h
  have hsz : Maps.size (ptrD ks b) = ks.length := ptrD_size ks b
  have hseq : SeqGives Fence.wide 2 Tryz.prog 50 #[.pointer (some ⟨w.heap.size, 0, none⟩)] encZ (fun ss => ss.Perm (intKeys (ptrD ks b))) (Maps.size (ptrD ks b)) (boxedP w m) :=
    AnyZI.keys_gives (ρ := Tryz.keysA_ren) { Tryz.keysA with } Fence.wide _ trivial rfl (by omega) w.heap.size m ks.length (ptrD ks b) _ (by simp [boxedP]) (by simp [boxedP]) (R := heldR)
      ⟨es, clock, (Below.heap_alloc _ _ m hlt).trans hb, F, hs, hD⟩
  have cS := AnyZI.sorted_in Tryz.sortedA Fence.wide 5 trivial trivial trivial trivial rfl (by omega) (sortsP _) (enters_of Tryz.func49 (by kernel_rfl) rfl) 50 #[.pointer (some ⟨w.heap.size, 0, none⟩)] trivial
    (enters_of Tryz.func50 (by kernel_rfl) rfl) _ _ (by rw [hsz]; unfold maxLen; omega) (by rw [hsz]; omega) _ hseq
  change CallsIn _ _ Tryz.prog 34 _ _ _ at cS
  refine ((callsIn_wide (n := 5)).1 cS).mono ?_
  rintro e w' ⟨v, ss, rfl, hp, hown, hnil, hb⟩
  rw [ptrD_keys] at hp
  have hb2 : Below w.heap.size w w' := ((Below.refl _ w).alloc (Nat.le_refl _) _).trans (hb.mono (by simp [boxedP]))
  obtain ⟨A, c, rfl⟩ := own_form hown
  rw [hp.length_eq]
  exact ⟨A, c, rfl, hb2⟩
set_option maxRecDepth 100000 in
theorem Flows_any (B s : Nat) (ks : List Int) (F : Int → Fl) (w : World) (H : SchAt w B s ks F) (hl : ks.length ≤ 1000000) :
    Calls Tryz.prog 17 #[.pointer (some ⟨s, 0, none⟩)] w fun e w' => (∃ A c, e = .returned (.slice A ks.length c)) ∧ Below w.heap.size w w' := by
  obtain ⟨mf, q1, m1, q2, m2, bs, qs, xr, xw, h, hL⟩ := H
  obtain ⟨A1, c1, A2, c2, hrow⟩ := h.row
  have a0 : w.cell? ⟨s, 0, none⟩ = some (.map (some mf)) := row_cell hrow 0
  have HF := Lib.hid h.flows; have Hl := Lib.hid hl
  clear h hL hrow hl
  go_enter Tryz.func17, Tryz.ntmps17
  go_wp2_with fail
  refine (KeysP_any mf w).mono ?_
  rintro e w1 ⟨rfl, rfl⟩
  go_wp2_with fail
  refine (SortedP_any mf ks bs w HF.out Hl.out).mono ?_
  rintro e w2 ⟨A, c, rfl, hb2⟩
  have Hb := Lib.hid hb2
  clear hb2
  go_wp2
  go_ret
  exact ⟨⟨A, c, rfl⟩, Hb.out⟩
end Go.Proofs.YtbfjakchgmdldaaGreat
end
