/-
  Contract of volume's Chunk: a chunk by itself. Conditions: a state in memory, as find asks.
-/
import Derived.Test.YtcaaakoahaoooaaVolSto
namespace Go.Proofs.Ytcaaakoahaoooaa
open Go.ChangeShapes Go.WideShapes Go.ChangeAt Go.RowKit
set_option linter.unusedVariables false

/-- a chunk whose lists lie in rows of one's own, from B on, that aren't one -/
structure CkOwn (w : World) (B : Nat) (k : Ck) : Prop where
  m : w.ownsRow B 3 1 (.slice k.m.A k.m.n k.m.c) k.m.n (numsV k.ms)
  j : w.ownsRow B 3 1 (.slice k.j.A k.j.n k.j.c) k.j.n (numsV k.js)
  ne : ∀ b, (Value.slice k.m.A k.m.n k.m.c).ownBlock = some b → (Value.slice k.j.A k.j.n k.j.c).ownBlock ≠ some b
theorem CkOwn.below {w w' : World} {B : Nat} {k : Ck} (h : CkOwn w B k) (hb : Below w.heap.size w w') : CkOwn w' B k := ⟨own_below h.m hb, own_below h.j hb, h.ne⟩
theorem CkOwn.base {w : World} {B B' : Nat} {k : Ck} (h : CkOwn w B k) (hb : B' ≤ B) : CkOwn w B' k := ⟨own_baseM h.m hb, own_baseM h.j hb, h.ne⟩
theorem CkOwn.ok {w : World} {B : Nat} {k : Ck} (h : CkOwn w B k) : CkOk w k := by
  obtain ⟨id, vo, ep, ⟨A, n, c⟩, ⟨A2, n2, c2⟩, ms, js⟩ := k
  exact ⟨IntsT.own h.m, IntsT.own h.j⟩
theorem CkOwn.turned {p : Nat → Prop} {w w' : World} {B : Nat} {k : Ck} (h : CkOwn w B k) (ht : Turned p w w') (hp : ∀ b, p b → ∀ cs fr, w.heap[b]? ≠ some (.cells cs 3 fr)) : CkOwn w' B k := by
  refine ⟨ht.own h.m fun b hb e => ?_, ht.own h.j fun b hb e => ?_, h.ne⟩
  · obtain ⟨cs, e'⟩ := row_blockM h.m hb
    exact hp b e cs _ e'
  · obtain ⟨cs, e'⟩ := row_blockM h.j hb
    exact hp b e cs _ e'
/-- what Chunk hands back -/
def ChunkRet (o : Option (Nat × Nat × Chk)) (w : World) (e : Ending) (w' : World) : Prop :=
  match o with
  | none => e = .returned (.tuple #[.agg #[.int .i64 0, .int .i64 0, .int .i64 0, .slice none 0 0, .slice none 0 0], .bool false]) ∧ Below w.heap.size w w'
  | some (_, _, k) => ∃ r : Ck, r.dat = k ∧ e = .returned (.tuple #[ckA r, .bool true]) ∧ CkOwn w' w.heap.size r ∧ Below w.heap.size w w'
attribute [local go_sem ↓] ldCk_eq
attribute [local go_sem ↓] stCk_eq
set_option maxRecDepth 100000 in
set_option maxHeartbeats 2000000 in
theorem VChunk (g : Nat) (s : St) (id : Int) (w : World) (h : StAt w g s) (hf : StFit s) (ho : OrdS s) :
    Calls Try.prog 16 #[.pointer (some ⟨g, 0, none⟩), .int .i64 id] w (ChunkRet (findS s id) w) := by
  obtain ⟨w1, hw1, hb1, hr1⟩ := ck_box w ck0
  simp only [ck0, Sl.nil] at hw1 hr1
  have KF := Lib.hid (Vfind g s id w1 (h.below hb1) hf ho)
  have H := Lib.hid (h.below hb1); have Hf := Lib.hid hf; have Hb1 := Lib.hid hb1; have Hr1 := Lib.hid hr1
  have hgl := h.lt
  clear h hf ho hb1 hr1
  cases hfs : findS s id with
  | none =>
    rw [hfs] at KF
    clear hfs
    unfold findV at KF
    go_enter Try.func16, Try.ntmps16
    go_wp2_with fail
    refine KF.out.mono ?_
    rintro e w2 ⟨rfl, hb2⟩
    obtain ⟨w3, hst, hr3, ht3⟩ := stCk_run (row_below Hr1.out hb2) rfl ck0
    simp only [ck0, Sl.nil] at hst hr3
    have Hr3 := Lib.hid hr3; have Ht3 := Lib.hid ht3; have Hb2 := Lib.hid (Hb1.out.trans (hb2.mono Hb1.out.size))
    clear hb2 hr3 ht3 hw1
    go_wp2
    refine bodyPost_ret (v := .tuple #[.agg #[.int .i64 0, .int .i64 0, .int .i64 0, .slice none 0 0, .slice none 0 0], .bool false]) (results_cell_2 rfl _ _ w.heap.size 48 #[.int .i64 0, .int .i64 0, .int .i64 0, .slice none 0 0, .slice none 0 0] (0, 0) _ (.bool false) rfl rfl Hr3.out Try.underlying48 rfl ck_size) rfl ?_
    exact ⟨rfl, Hb2.out.trans (Ht3.out.below (fun k e => by omega) Hb2.out.size)⟩
  | some x =>
    obtain ⟨i, j, k⟩ := x
    have hat := findS_some hfs
    rw [hfs] at KF
    clear hfs
    unfold findV at KF
    obtain ⟨hi, hj, hid⟩ := hat
    obtain ⟨cs, K, X, h1⟩ := H.out
    rw [← h1.dat i hi, List.getElem?_map, Option.map_eq_some_iff] at hj
    obtain ⟨r, hj, rfl⟩ := hj
    have hck := (Hf.out.vs i hi).ks r.dat (by rw [← h1.dat i hi]; exact List.mem_map.2 ⟨r, List.mem_of_getElem? hj, rfl⟩)
    have hml : r.ms.length ≤ 16 := hck.ml
    have hjl : r.js.length ≤ 16 := hck.jl
    have H1 := Lib.hid h1; have Hj := Lib.hid hj
    have hj64 : j < 64 := by
      have e1 := (Hf.out.vs i hi).kl
      rw [← h1.dat i hi, List.length_map] at e1
      have := (List.getElem?_eq_some_iff.1 hj).1
      omega
    have hjn : (j : Int) < ((K i).n : Int) := by
      have := (List.getElem?_eq_some_iff.1 hj).1
      have := (h1.ks i hi).len
      omega
    have j0 : (0 : Int) ≤ (j : Int) := by omega
    clear h1 hj hck
    go_enter Try.func16, Try.ntmps16
    go_wp2_with fail
    refine KF.out.mono ?_
    rintro e w2 ⟨rfl, hb2⟩
    have h2 := H1.out.below hb2
    have c6 : w2.cell? ⟨g, 16 + i * 7 + 6, none⟩ = some (.slice (K i).A (K i).n (K i).c) := by rw [h2.cell]; exact h2.c6 i hi
    obtain ⟨g1, o1, hA, hat⟩ := (h2.ks i hi).get Hj.out
    have hok := (h2.ks i hi).ok r (List.mem_of_getElem? Hj.out)
    obtain ⟨S, hS⟩ : ∃ S, K i = S := ⟨_, rfl⟩
    rw [hS] at hA c6 hjn
    clear hS
    obtain ⟨A9, n9, c9⟩ := S
    simp only at hA c6 hjn
    subst hA
    have hld := ldCk_run hat
    obtain ⟨wz, w3, hwz, hst9, hb3, hr3⟩ := ck_new w2 r
    have Hr3 := Lib.hid hr3; have Hb3 := Lib.hid hb3; have Hr2 := Lib.hid (row_below Hr1.out hb2); have Hok := Lib.hid (hok.below hb3)
    have Hb2 := Lib.hid (Hb1.out.trans (hb2.mono Hb1.out.size))
    have hs2 : w.heap.size < w2.heap.size := by
      have := (Array.getElem?_eq_some_iff.1 Hr1.out).1
      have := hb2.size
      omega
    have d3 : w3.drew.cell? ⟨w2.heap.size, 3, none⟩ = some (.slice r.m.A r.m.n r.m.c) := row_cell (w := w3.drew) hr3 3
    have d4 : w3.drew.cell? ⟨w2.heap.size, 4, none⟩ = some (.slice r.j.A r.j.n r.j.c) := row_cell (w := w3.drew) hr3 4
    have KC1 := Lib.hid (VClone r.m r.ms w3.drew (Hok.out.m.below (Below.refl _ _).drew) (by omega))
    clear h2 hat hok hb2 hb3 hr3 hw1
    go_upto_region 5 with fail
    go_cut [8] (fun _ wx => ∃ q : Ck, q.dat = r.dat ∧ wx.heap[w2.heap.size]? = some (.cells #[.int .i64 q.id, .int .i64 q.vo, .int .i64 q.ep, .slice q.m.A q.m.n q.m.c, .slice q.j.A q.j.n q.j.c] 48 (0, 0)) ∧ CkOwn wx w.heap.size q ∧ Below w2.heap.size w2 wx)
    case first =>
      go_region_law (first
        | (go_simp; go_at_call 36; refine KC2.out.mono ?_; rintro e w5 ⟨s2, rfl, hown2, hb5⟩; have Hown2 := Lib.hid hown2; have Hb5 := Lib.hid hb5; have hr5 := row_below Hr4.out hb5; have f3 := row_cell hr5 3; have f4 := row_cell hr5 4; have z3 := row_frozen hr5 3; have z4 := row_frozen hr5 4; have Hr5 := Lib.hid hr5; clear hown2 hb5 hr5)
        | (go_simp; go_at_call 36; refine KC1.out.mono ?_; rintro e w4 ⟨s1, rfl, hown1, hb4⟩; have Hown1 := Lib.hid hown1; have hbb := (Below.refl w3.heap.size w3).drew.trans hb4; have Hb4 := Lib.hid hbb; have Hr4 := Lib.hid (row_below Hr3.out hbb); have e3 : w4.cell? ⟨w2.heap.size, 3, none⟩ = some (.slice r.m.A r.m.n r.m.c) := row_cell Hr4.out 3; have e4 : w4.cell? ⟨w2.heap.size, 4, none⟩ = some (.slice r.j.A r.j.n r.j.c) := row_cell Hr4.out 4; have KC2 := Lib.hid (VClone r.j r.js w4 (Hok.out.j.below hbb) (by omega)); clear hown1 hb4 hbb))
      all_goals
        go_wp2_with fail
        go_meet
        obtain ⟨h1, h2⟩ := ck_set2 Hr5.out s1 s2
        have hl3 := (Array.getElem?_eq_some_iff.1 Hr3.out).1
        have hs23 := Hb3.out.size
        have hs12 := Hb2.out.size
        have hs34 : w3.heap.size ≤ w4.heap.size := Hb4.out.size
        have lt1 : ∀ b, (Value.slice s1.A s1.n s1.c).ownBlock = some b → w3.heap.size ≤ b ∧ b < w4.heap.size := fun b hb => Hown1.out.lt b hb
        have lt2 : ∀ b, (Value.slice s2.A s2.n s2.c).ownBlock = some b → w4.heap.size ≤ b ∧ b < w5.heap.size := fun b hb => Hown2.out.lt b hb
        refine ⟨⟨r.id, r.vo, r.ep, s1, s2, r.ms, r.js⟩, rfl, h1, ⟨own_baseM (h2.own (own_below Hown1.out Hb5.out) fun b hb e => ?_) (by show w.heap.size ≤ w3.heap.size; omega), own_baseM (h2.own Hown2.out fun b hb e => ?_) (by omega), fun b hb hb' => ?_⟩, ?_⟩
        · have := lt1 b hb; omega
        · have := lt2 b hb; omega
        · have := lt1 b hb; have := lt2 b hb'; omega
        · exact ((Hb3.out.trans (Hb4.out.mono hs23)).trans (Hb5.out.mono (by omega))).trans (h2.below (fun k e => by omega) (by have := Hb5.out.size; omega))
    case rest =>
      obtain ⟨q, hq, hrq, hoq, hbq⟩ := hcut
      have hldq := ldCk_run (CkAt.of_row hrq)
      obtain ⟨w6, hst, hr6, ht6⟩ := stCk_run (row_below Hr2.out hbq) rfl q
      have Hr6 := Lib.hid hr6; have Ht6 := Lib.hid ht6; have Hq := Lib.hid hq; have Hoq := Lib.hid hoq; have Hbq := Lib.hid hbq
      clear hr6 ht6 hq hoq hbq hrq KC1 d3 d4 hst9 hwz hld c6
      go_wp2
      refine bodyPost_ret (v := .tuple #[ckA q, .bool true]) (results_cell_2 rfl _ _ w.heap.size 48 #[.int .i64 q.id, .int .i64 q.vo, .int .i64 q.ep, .slice q.m.A q.m.n q.m.c, .slice q.j.A q.j.n q.j.c] (0, 0) _ (.bool true) rfl rfl Hr6.out Try.underlying48 rfl ck_size) rfl ?_
      refine ⟨q, Hq.out, rfl, Hoq.out.turned Ht6.out (fun b e cs fr hb => ?_), (Hb2.out.trans (Hbq.out.mono Hb2.out.size)).trans (Ht6.out.below (fun k e => by omega) (by have := Hb2.out.size; have := Hbq.out.size; omega))⟩
      subst e
      rw [row_below Hr2.out Hbq.out] at hb
      injection hb with hb
      injection hb with _ hb
      exact absurd hb (by decide)
end Go.Proofs.Ytcaaakoahaoooaa
