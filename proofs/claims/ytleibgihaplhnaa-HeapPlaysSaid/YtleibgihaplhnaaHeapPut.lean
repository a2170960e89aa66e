/-
  Contract of dotterelref09's Put. Conditions: the entries are in memory.
-/
import Derived.Test.YtleibgihaplhnaaHeapRef
namespace Go.Proofs.Ytleibgihaplhnaa
open Go.ChangeShapes Go.WideShapes Go.ChangeAt Go.RowKit Go.Maps Go.Sort
set_option linter.unusedVariables false

theorem ins_found {e : Ent} : ∀ {x : List Ent} (y : List Ent), (∃ r ∈ x, ahead e r) → insE e (x ++ y) = insE e x ++ y
  | [], _, h => by obtain ⟨r, hr, _⟩ := h; cases hr
  | a :: s, y, h => by
    show (if ahead e a then e :: a :: (s ++ y) else a :: insE e (s ++ y)) = (if ahead e a then e :: a :: s else a :: insE e s) ++ y
    by_cases ha : ahead e a
    · rw [if_pos ha, if_pos ha]; rfl
    · rw [if_neg ha, if_neg ha]
      have : ∃ r ∈ s, ahead e r := by
        obtain ⟨r, hr, h2⟩ := h
        rcases List.mem_cons.1 hr with rfl | hr
        · exact absurd h2 ha
        · exact ⟨r, hr, h2⟩
      rw [ins_found y this]; rfl
theorem ins_none {e : Ent} : ∀ {x : List Ent} (y : List Ent), (∀ r ∈ x, ¬ ahead e r) → insE e (x ++ y) = x ++ insE e y
  | [], _, _ => rfl
  | a :: s, y, h => by
    show (if ahead e a then e :: a :: (s ++ y) else a :: insE e (s ++ y)) = a :: (s ++ insE e y)
    rw [if_neg (h a (by simp)), ins_none y fun r hr => h r (by simp [hr])]
/-- on the way: what stands so far, and whether e is in -/
def PutAt (e : Ent) (x acc : List Ent) (done : Bool) : Prop := (done = false ∧ acc = x ∧ ∀ r ∈ x, ¬ ahead e r) ∨ (done = true ∧ acc = insE e x ∧ ∃ r ∈ x, ahead e r)
theorem PutAt.len {e : Ent} {x acc : List Ent} {done : Bool} (h : PutAt e x acc done) : acc.length ≤ x.length + 1 := by
  rcases h with ⟨_, rfl, _⟩ | ⟨_, rfl, _⟩
  · omega
  · rw [insE_length]; exact Nat.le_refl _

set_option maxRecDepth 100000 in
set_option maxHeartbeats 4000000 in
theorem Put_any (A : Option Addr) (n c : Nat) (l : List Ent) (e : Ent) (w : World) (hl : l.length = n) (hn : n ≤ 50000) (hs : Seen w A (entsV l)) :
    Calls Try.prog 8 #[.slice A n c, .agg #[.int .i64 e.1, .int .i64 e.2]] w (EntsRet (putE l e) w) := by
  obtain ⟨W1, hW1, hb1, x0, x1, -⟩ := new_ref w e
  obtain ⟨o, ho⟩ : ∃ o, outE l e.1 = o := ⟨_, rfl⟩
  have hol : o.length ≤ n := by rw [← ho, ← hl]; exact outE_length l e.1
  have hout := Out_any A n c l e.1 W1 hl (by omega) (hs.below hb1)
  rw [ho] at hout
  have Hout := Lib.hid hout; have Hb1 := Lib.hid hb1; have Hx := Lib.hid (And.intro x0 x1); have Ho0 := Lib.hid ho
  have mixed : Try.prog.follows .mixedOrders = true := mixed_is
  clear hl hs hout hb1 x1 ho
  go_enter Try.func8, Try.ntmps8
  go_wp2_with (go_at_call 11; refine Hout.out.mono ?_; rintro en w2 ⟨A2, c2, rfl, h2, b2⟩; obtain ⟨n2, hn2⟩ : ∃ n2, o.length = n2 := ⟨_, rfl⟩; rw [hn2] at h2 hol ⊢; have Hn2 := Lib.hid hn2; have S2 := Lib.hid (seen_ownE h2); have B2 := Lib.hid (Hb1.out.trans (b2.mono Hb1.out.size)); have X2 := Lib.hid (And.intro ((b2.cell (block_lt_of_cell Hx.out.1)).trans Hx.out.1) ((b2.cell (block_lt_of_cell Hx.out.2)).trans Hx.out.2)); clear h2 b2 hn2)
  clear x0 hW1
  go_loopw [5, 6, 7] (fun sv dv iv wr => ∃ (i k : Nat) (done : Bool) (acc : List Ent) (A' : Option Addr) (c' : Nat), i ≤ n2 ∧ k ≤ i + 1 ∧ iv = .int .i64 (i : Int) ∧ dv = .bool done ∧ sv = .slice A' k c' ∧ acc.length = k ∧ PutAt e (o.take i) acc done ∧ wr.ownsRow w2.heap.size 34 2 (.slice A' k c') k (entsV acc) ∧ Below w2.heap.size w2 wr) (fun _ _ iv _ => n2 - (intOf iv).toNat)
  case atStart => exact ⟨0, 0, false, [], none, 0, by omega, by omega, rfl, rfl, rfl, rfl, .inl ⟨rfl, rfl, fun r h => (by simp at h)⟩, World.ownsRow_nil _ _ _ _, Below.refl _ _⟩
  case round =>
    obtain ⟨i, k, done, acc, A', c', hin, hki, rfl, rfl, rfl, hk, hput, ho, hb⟩ := hrel
    have Hk := Lib.hid hk; have Hput := Lib.hid hput; have Ho := Lib.hid ho; have Hb := Lib.hid hb
    clear hk hput ho hb
    by_cases hi : i < n2
    · obtain ⟨r, hr⟩ : ∃ r, o[i]? = some r := ⟨_, List.getElem?_eq_getElem (by have := Hn2.out; omega)⟩
      obtain ⟨g, p, hA, d0, d1⟩ := (S2.out.below Hb.out).ent hr
      subst hA
      have Hr := Lib.hid hr
      have i0 : (0 : Int) ≤ (i : Int) := by omega
      have i1 : (i : Int) < (n2 : Int) := by omega
      have y0 := (Hb.out.cell (block_lt_of_cell X2.out.1)).trans X2.out.1
      have y1 := (Hb.out.cell (block_lt_of_cell X2.out.2)).trans X2.out.2
      have k1 : ∀ n os, (grow (wr.drewN n) os).cell? ⟨g, p + i * 2, none⟩ = some (.int .i64 r.1) := cell_grown (block_lt_of_cell d0) d0
      have k2 : ∀ n os, (grow (wr.drewN n) os).cell? ⟨g, p + i * 2 + 1, none⟩ = some (.int .i64 r.2) := cell_grown (block_lt_of_cell d1) d1
      have k3 : ∀ n os, (grow (wr.drewN n) os).cell? ⟨w.heap.size, 0, none⟩ = some (.int .i64 e.1) := cell_grown (block_lt_of_cell y0) y0
      have k4 : ∀ n os, (grow (wr.drewN n) os).cell? ⟨w.heap.size, 1, none⟩ = some (.int .i64 e.2) := cell_grown (block_lt_of_cell y1) y1
      clear hr d0 d1 y0 y1
      cases done with
      | true =>
        go_wp2
        go_quiet_grown (fail)
        obtain ⟨W3, hW3⟩ : ∃ W3, grow (wr.drewN nq) osq = W3 := ⟨_, rfl⟩
        dsimp only
        rw [hW3]
        have hb3 : Below wr.heap.size wr W3 := by rw [← hW3]; exact below_ofgrow _ _ _
        have z1 : W3.cell? ⟨g, p + i * 2, none⟩ = some (.int .i64 r.1) := by rw [← hW3]; exact k1 _ _
        have z2 : W3.cell? ⟨g, p + i * 2 + 1, none⟩ = some (.int .i64 r.2) := by rw [← hW3]; exact k2 _ _
        have z3 : W3.cell? ⟨w.heap.size, 0, none⟩ = some (.int .i64 e.1) := by rw [← hW3]; exact k3 _ _
        have z4 : W3.cell? ⟨w.heap.size, 1, none⟩ = some (.int .i64 e.2) := by rw [← hW3]; exact k4 _ _
        obtain ⟨Wc, hWc, bc, -, -, sc⟩ := new_ref W3 r
        have Bc := Lib.hid (Hb.out.trans ((hb3.trans (bc.mono hb3.size)).mono Hb.out.size)); have Oc := Lib.hid (own_belowM Ho.out (hb3.trans (bc.mono hb3.size))); have Sc := Lib.hid sc
        clear hW3 hb3 k1 k2 k3 k4 bc sc
        go_wp2_with (at_builtin; refine wpList_app3 rfl (.tmp 32) (.tmp 37) _ rfl 34 _ 2 16 Try.underlying28 ref_info rfl (by omega) w2.heap.size A' k c' (entsV acc) rfl Oc.out W3.heap.size 0 1 1 (entsV [r]) rfl rfl Sc.out (entsV_one _) (by unfold maxLen; omega) (by omega) Bc.out.size ?_; intro A5 c5 w5 hown5 hg5 hbk5; have Hown5 := Lib.hid hown5; have Hg5 := Lib.hid hg5; clear hown5 hg5 hbk5)
        go_roundw
        case rel =>
          have tg : Turned (fun k0 => (Value.slice A' k c').ownBlock = some k0) Wc w5 := Turned.of_grown Hg5.out fun k e => e
          refine ⟨i + 1, k + 1, true, acc ++ [r], A5, c5, by omega, by omega, by go_num, rfl, rfl, by rw [List.length_append, Hk.out]; rfl, ?_, by rw [entsV_append]; exact Hown5.out, Bc.out.trans (tg.below (fun k e => (Oc.out.lt k e).1) Bc.out.size)⟩
          rcases Hput.out with ⟨h, _⟩ | ⟨_, rfl, h2⟩
          · cases h
          · obtain ⟨r', hr', h3⟩ := h2
            exact .inr ⟨rfl, by rw [take_snoc Hr.out, ins_found _ ⟨r', hr', h3⟩], r', by rw [take_snoc Hr.out]; simp [hr'], h3⟩
        case measure => simp [intOf]; omega
      | false =>
        obtain ⟨b, hbd⟩ : ∃ b, decide (ahead e r) = b := ⟨_, rfl⟩
        have hah : ∀ W, Calls Try.prog 21 #[.agg #[.int .i64 e.1, .int .i64 e.2], .agg #[.int .i64 r.1, .int .i64 r.2]] W fun en w' => en = .returned (.bool b) ∧ ∃ q os', w' = grow (W.drewN q) os' := fun W => by rw [← hbd]; exact ahead_any e r W
        have Hah := Lib.hid hah; have Hbd := Lib.hid hbd
        clear hah hbd
        have hput0 : acc = o.take i ∧ ∀ r ∈ o.take i, ¬ ahead e r := by
          rcases Hput.out with ⟨_, h1, h2⟩ | ⟨h, _⟩
          · exact ⟨h1, h2⟩
          · cases h
        have Hput0 := Lib.hid hput0
        clear hput0
        cases b with
        | true =>
          go_wp2
          go_quiet_grown (first | (go_at_call 21; refine Calls.grown_of (Hah.out _)))
          obtain ⟨W3, hW3⟩ : ∃ W3, grow (wr.drewN nq) osq = W3 := ⟨_, rfl⟩
          dsimp only
          rw [hW3]
          have hb3 : Below wr.heap.size wr W3 := by rw [← hW3]; exact below_ofgrow _ _ _
          have z1 : W3.cell? ⟨g, p + i * 2, none⟩ = some (.int .i64 r.1) := by rw [← hW3]; exact k1 _ _
          have z2 : W3.cell? ⟨g, p + i * 2 + 1, none⟩ = some (.int .i64 r.2) := by rw [← hW3]; exact k2 _ _
          have z3 : W3.cell? ⟨w.heap.size, 0, none⟩ = some (.int .i64 e.1) := by rw [← hW3]; exact k3 _ _
          have z4 : W3.cell? ⟨w.heap.size, 1, none⟩ = some (.int .i64 e.2) := by rw [← hW3]; exact k4 _ _
          obtain ⟨Wc, hWc, bc, -, -, sc⟩ := new_ref W3 e
          have Bc := Lib.hid (Hb.out.trans ((hb3.trans (bc.mono hb3.size)).mono Hb.out.size)); have Oc := Lib.hid (own_belowM Ho.out (hb3.trans (bc.mono hb3.size))); have Sc := Lib.hid sc
          clear hW3 hb3 k1 k2 k3 k4 bc sc
          go_wp2_with (first
            | (at_builtin; refine wpList_app3 rfl (.tmp 28) (.tmp 30) _ rfl 34 _ 2 16 Try.underlying28 ref_info rfl (by omega) w2.heap.size A' k c' (entsV acc) rfl Oc.out W3.heap.size 0 1 1 (entsV [e]) rfl rfl Sc.out (entsV_one _) (by unfold maxLen; omega) (by omega) Bc.out.size ?_; intro A4 c4 w4 hown4 hg4 hbk4; have tg4 : Turned (fun k0 => (Value.slice A' k c').ownBlock = some k0) Wc w4 := Turned.of_grown hg4 fun k e => e; have B4 := Lib.hid (Bc.out.trans (tg4.below (fun k e => (Oc.out.lt k e).1) Bc.out.size)); obtain ⟨g', p', hA', d0, d1⟩ := (S2.out.below B4.out).ent Hr.out; injection hA' with hA'; injection hA' with hg' hp'; subst hg'; subst hp'; obtain ⟨Wd, hWd, bd, -, -, sd⟩ := new_ref w4 r; have Bd := Lib.hid (B4.out.trans (bd.mono B4.out.size)); have Od := Lib.hid (own_belowM hown4 bd); have Sd := Lib.hid sd; clear hown4 hg4 hbk4 tg4 bd sd)
            | (at_builtin; refine wpList_app3 rfl (.tmp 32) (.tmp 37) _ rfl 34 _ 2 16 Try.underlying28 ref_info rfl (by omega) w2.heap.size A4 (k + 1) c4 (entsV acc ++ entsV [e]) rfl Od.out w4.heap.size 0 1 1 (entsV [r]) rfl rfl Sd.out (entsV_one _) (by unfold maxLen; omega) (by omega) Bd.out.size ?_; intro A5 c5 w5 hown5 hg5 hbk5; have Hown5 := Lib.hid hown5; have Hg5 := Lib.hid hg5; clear hown5 hg5 hbk5))
          go_roundw
          case rel =>
            have tg : Turned (fun k0 => (Value.slice A4 (k + 1) c4).ownBlock = some k0) Wd w5 := Turned.of_grown Hg5.out fun k e => e
            have hbe : ahead e r := of_decide_eq_true Hbd.out
            refine ⟨i + 1, k + 1 + 1, true, acc ++ [e] ++ [r], A5, c5, by omega, by have := Hk.out; have := congrArg List.length Hput0.out.1; rw [List.length_take] at this; omega, by go_num, rfl, rfl, by rw [List.length_append, List.length_append, Hk.out]; rfl, .inr ⟨rfl, ?_, r, by rw [take_snoc Hr.out]; simp, hbe⟩, by rw [entsV_append, entsV_append]; exact Hown5.out, Bd.out.trans (tg.below (fun k e => (Od.out.lt k e).1) Bd.out.size)⟩
            rw [take_snoc Hr.out, ins_none _ Hput0.out.2, Hput0.out.1]
            show _ = o.take i ++ (if ahead e r then [e, r] else [r, e])
            rw [if_pos hbe, List.append_assoc]
            rfl
          case measure => simp [intOf]; omega
        | false =>
          go_wp2
          go_quiet_grown (first | (go_at_call 21; refine Calls.grown_of (Hah.out _)))
          obtain ⟨W3, hW3⟩ : ∃ W3, grow (wr.drewN nq) osq = W3 := ⟨_, rfl⟩
          dsimp only
          rw [hW3]
          have hb3 : Below wr.heap.size wr W3 := by rw [← hW3]; exact below_ofgrow _ _ _
          have z1 : W3.cell? ⟨g, p + i * 2, none⟩ = some (.int .i64 r.1) := by rw [← hW3]; exact k1 _ _
          have z2 : W3.cell? ⟨g, p + i * 2 + 1, none⟩ = some (.int .i64 r.2) := by rw [← hW3]; exact k2 _ _
          have z3 : W3.cell? ⟨w.heap.size, 0, none⟩ = some (.int .i64 e.1) := by rw [← hW3]; exact k3 _ _
          have z4 : W3.cell? ⟨w.heap.size, 1, none⟩ = some (.int .i64 e.2) := by rw [← hW3]; exact k4 _ _
          obtain ⟨Wc, hWc, bc, -, -, sc⟩ := new_ref W3 r
          have Bc := Lib.hid (Hb.out.trans ((hb3.trans (bc.mono hb3.size)).mono Hb.out.size)); have Oc := Lib.hid (own_belowM Ho.out (hb3.trans (bc.mono hb3.size))); have Sc := Lib.hid sc
          clear hW3 hb3 k1 k2 k3 k4 bc sc
          go_wp2_with (at_builtin; refine wpList_app3 rfl (.tmp 32) (.tmp 37) _ rfl 34 _ 2 16 Try.underlying28 ref_info rfl (by omega) w2.heap.size A' k c' (entsV acc) rfl Oc.out W3.heap.size 0 1 1 (entsV [r]) rfl rfl Sc.out (entsV_one _) (by unfold maxLen; omega) (by omega) Bc.out.size ?_; intro A5 c5 w5 hown5 hg5 hbk5; have Hown5 := Lib.hid hown5; have Hg5 := Lib.hid hg5; clear hown5 hg5 hbk5)
          go_roundw
          case rel =>
            have tg : Turned (fun k0 => (Value.slice A' k c').ownBlock = some k0) Wc w5 := Turned.of_grown Hg5.out fun k e => e
            have hbe : ¬ ahead e r := of_decide_eq_false Hbd.out
            refine ⟨i + 1, k + 1, false, acc ++ [r], A5, c5, by omega, by omega, by go_num, rfl, rfl, by rw [List.length_append, Hk.out]; rfl, .inl ⟨rfl, by rw [take_snoc Hr.out, Hput0.out.1], fun r' hr' => ?_⟩, by rw [entsV_append]; exact Hown5.out, Bc.out.trans (tg.below (fun k e => (Oc.out.lt k e).1) Bc.out.size)⟩
            rw [take_snoc Hr.out, List.mem_append, List.mem_singleton] at hr'
            rcases hr' with hr' | rfl
            · exact Hput0.out.2 r' hr'
            · exact hbe
          case measure => simp [intOf]; omega
    · obtain rfl : i = n2 := by omega
      have i1 : ¬ (i : Int) < (i : Int) := by omega
      have hty : o.take i = o := List.take_of_length_le (by rw [Hn2.out]; exact Nat.le_refl _)
      have hput1 := Hput.out
      rw [hty] at hput1
      have Hput1 := Lib.hid hput1
      clear hty hput1
      cases done with
      | true =>
        go_wp2
        go_ret
        unfold EntsRet
        have hfin : acc = putE l e := by
          rcases Hput1.out with ⟨h, _⟩ | ⟨_, h, _⟩
          · cases h
          · rw [h, putE, Ho0.out]
        rw [← hfin, Hk.out]
        exact ⟨A', c', rfl, own_baseM Ho.out B2.out.size, B2.out.trans (Hb.out.mono B2.out.size)⟩
      | false =>
        have y0 := (Hb.out.cell (block_lt_of_cell X2.out.1)).trans X2.out.1
        have y1 := (Hb.out.cell (block_lt_of_cell X2.out.2)).trans X2.out.2
        obtain ⟨Wc, hWc, bc, -, -, sc⟩ := new_ref wr e
        have Bc := Lib.hid (Hb.out.trans (bc.mono Hb.out.size)); have Oc := Lib.hid (own_belowM Ho.out bc); have Sc := Lib.hid sc
        clear bc sc
        go_wp2_with (at_builtin; refine wpList_app3 rfl (.tmp 41) (.tmp 43) _ rfl 34 _ 2 16 Try.underlying28 ref_info rfl (by omega) w2.heap.size A' k c' (entsV acc) rfl Oc.out wr.heap.size 0 1 1 (entsV [e]) rfl rfl Sc.out (entsV_one _) (by unfold maxLen; omega) (by omega) Bc.out.size ?_; intro A5 c5 w5 hown5 hg5 hbk5; have Hown5 := Lib.hid hown5; have Hg5 := Lib.hid hg5; clear hown5 hg5 hbk5)
        go_ret
        unfold EntsRet
        have tg : Turned (fun k0 => (Value.slice A' k c').ownBlock = some k0) Wc w5 := Turned.of_grown Hg5.out fun k e => e
        have hfin : acc ++ [e] = putE l e := by
          rcases Hput1.out with ⟨_, rfl, h⟩ | ⟨h, _⟩
          · have := ins_none (e := e) [] h
            rw [List.append_nil] at this
            rw [putE, Ho0.out, this]; rfl
          · cases h
        rw [← hfin, List.length_append, Hk.out]
        exact ⟨A5, c5, rfl, by rw [entsV_append]; exact own_baseM Hown5.out B2.out.size, B2.out.trans ((Bc.out.trans (tg.below (fun k e => (Oc.out.lt k e).1) Bc.out.size)).mono B2.out.size)⟩
end Go.Proofs.Ytleibgihaplhnaa
