/-
  Contract of (*rlog.Log).Match where the log has that term there. Conditions: a log in memory; entries that can be read, in no block of the log's.
-/
import Derived.Test.YtigjkmlhpefafaaRlgMat
namespace Go.Proofs.Ytigjkmlhpefafaa
open Go.ChangeShapes Go.WideShapes Go.ChangeAt Go.RowKit
set_option linter.unusedVariables false

/-- what Match hands back, where the log x has that term at place: k of the entries y agree -/
def MatchRet (B g place : Nat) (q : Option Nat) (base term : Int) (x y : List Dat) (w : World) (en : Ending) (w' : World) : Prop :=
  ∃ k : Nat, IsAgree (x.drop place) y k ∧
    ((k = y.length ∧ en = .returned (.tuple #[.int .i64 (base + x.length + 1), .bool true]) ∧ GrewL B g q base term x w w') ∨
     (k < y.length ∧ en = .returned (.tuple #[.int .i64 (base + place + k + 1), .bool true]) ∧ GrewL B g q base term (x.take (place + k) ++ y.drop k) w w'))

/-- a log whose entries end earlier, its slice written into the struct -/
theorem LogAt.shorter {w w3 : World} {B g n i c : Nat} {q : Option Nat} {base term : Int} {X : List Ent} {A : Option Addr} (h : LogAt w B g q base term X) (hrow : w.heap[g]? = some (.cells #[.int .i64 base, .int .i64 term, .slice A n c] 43 (0, 0))) (hn : X.length = n) (hq : (Value.slice A n c).ownBlock = q) (hi : i ≤ n)
    (hown : w3.ownsRow B 28 3 (.slice A i c) i (entsV (X.take i))) (ht : Turned (fun k => q = some k) w w3) :
    LogAt (w3.setCell ⟨g, 2, none⟩ (.slice A i c)) B g q base term (X.take i) ∧ Turned (FootL g q) w (w3.setCell ⟨g, 2, none⟩ (.slice A i c)) := by
  have hap := h.apart
  have r3 := ht.heap hrow hap
  have t5 : Turned (FootL g q) w (w3.setCell ⟨g, 2, none⟩ (.slice A i c)) := (ht.mono (q := FootL g q) fun k _ e => .inr e).setCell (b := ⟨g, 2, none⟩) (fun _ => .inl rfl) _
  have hl : (X.take i).length = i := by rw [List.length_take]; omega
  have hq' : (Value.slice A i c).ownBlock = q := by rw [← hq]; cases A <;> rfl
  refine ⟨⟨h.hB, ⟨A, c, ?_, ?_, by rw [hl]; exact hq'⟩, fun x hx => (h.ok x (List.mem_of_mem_take hx)).turned t5 h.noBytes⟩, t5⟩
  · rw [hl]; exact row_set r3 2 _
  · rw [hl]
    exact own_turnedM ((Turned.refl (fun k => k = g) w3).setCell (b := ⟨g, 2, none⟩) (fun _ => rfl) _) hown fun k hk' e => by
      rw [hq', e] at hk'
      exact hap hk'

attribute [local go_sem ↓] ldEnt_eq
set_option maxRecDepth 100000 in
set_option maxHeartbeats 2000000 in
theorem Match_at (B g p n m : Nat) (q : Option Nat) (base term prev : Int) (X Y : List Ent) (C : Option Addr) (d : Nat) (w : World) (h : LogAt w B g q base term X) (hn : X.length = n) (h0 : 0 ≤ base) (h3 : base ≤ 4611686018427387904) (hl : n ≤ 50000) (hp : p ≤ n) (hi : prev = base + p)
    (hY : EntsAt w C Y) (hm : Y.length = m) (hml : m ≤ 50000) (hmd : m ≤ d) (hC : ∀ gC o, C = some ⟨gC, o, none⟩ → Y ≠ [] → ¬ FootL g q gC) (hBw : B ≤ w.heap.size) :
    Calls Try.prog 14 #[.pointer (some ⟨g, 0, none⟩), .int .i64 prev, .int .i64 (termN term (X.map Ent.dat) p), .slice C m d] w (MatchRet B g p q base term (X.map Ent.dat) (Y.map Ent.dat) w) := by
  have HT := Lib.hid (Term_at B g p q base term prev X w h h0 (by omega) hi (by omega) (by omega))
  obtain ⟨t0, ht0⟩ : ∃ t0, termN term (X.map Ent.dat) p = t0 := ⟨_, rfl⟩
  rw [ht0] at HT ⊢
  have hp1 : (m : Int) ≤ 9223372036854775807 - prev := by omega
  have hp2 : IntKind.i64.wrap (9223372036854775807 - prev) = 9223372036854775807 - prev := i64_sub (by omega) (by omega)
  have m0 : (0 : Int) ≤ (m : Int) := by omega
  have m1 : (m : Int) ≤ (d : Int) := by omega
  have hpl : IntKind.i64.wrap (prev - base) = (p : Int) := by rw [i64_sub (by omega) (by omega)]; omega
  have p0 : (0 : Int) ≤ (p : Int) := by omega
  have p1 : (p : Int) ≤ (n : Int) := by omega
  have H := Lib.hid h; have Hn := Lib.hid hn; have Hi := Lib.hid hi; have HY := Lib.hid hY; have Hm := Lib.hid hm; have HC := Lib.hid hC; have HBw := Lib.hid hBw
  obtain ⟨x, hx⟩ : ∃ x, X.map Ent.dat = x := ⟨_, rfl⟩
  obtain ⟨y, hy⟩ : ∃ y, Y.map Ent.dat = y := ⟨_, rfl⟩
  have Hx := Lib.hid hx; have Hy := Lib.hid hy
  rw [hx, hy]
  have hpn : 0 ≤ prev := by omega
  have hpm : prev ≤ 4611686018427587904 := by omega
  have H0 := Lib.hid h0; have H3 := Lib.hid h3
  clear h hn hi hY hm hC hBw ht0 hx hy h0 h3
  go_enter Try.func14, Try.ntmps14
  go_upto_region 5 with (go_at_call 17; refine HT.out.mono ?_; rintro e w1 ⟨rfl, hb1⟩; have Hb1 := Lib.hid hb1; clear hb1)
  have H1 := Lib.hid (H.out.below Hb1.out)
  obtain ⟨A, c, hrow, hown, hq⟩ := H1.out.row
  rw [Hn.out] at hrow hown hq
  have hcc := own_capL hown
  have hpc : p ≤ c := by have := hcc.1; omega
  have hsee := own_seen hown
  have a0 : w1.cell? ⟨g, 0, none⟩ = some (.int .i64 base) := row_cell hrow 0
  have a2 : w1.cell? ⟨g, 2, none⟩ = some (.slice A n c) := row_cell hrow 2
  have Hrow := Lib.hid hrow; have Hown := Lib.hid hown; have Hq := Lib.hid hq; have Hcc := Lib.hid hcc; have Hsee := Lib.hid hsee
  have p2 : (p : Int) ≤ (c : Int) := by omega
  clear hrow hown hq hcc hsee
  go_upto_region 6 with fail
  go_cut [13] (fun v wx => ∃ k : Nat, v = .int .i64 (k : Int) ∧ IsAgree (x.drop p) y k ∧ Below w1.heap.size w1 wx)
  case first =>
    have hA := fun A' cc' (hs : Seen w1 A' (entsV (X.drop p))) => agree_any A' C (n - p) m cc' d (X.drop p) Y w1 (by rw [List.length_drop, Hn.out]) Hm.out hs (HY.out.see.below Hb1.out) (by omega)
    have hs0 := Seen.drop Hsee.out (k := p * 3) (cap := c * 3) (by rw [entsV_length, Hn.out]; have := Hcc.out.1; omega)
    rw [entsV_drop] at hs0
    by_cases hcp : c = p
    · subst hcp
      rw [if_pos rfl] at hs0
      have KA := Lib.hid (hA _ 0 hs0)
      clear hA hs0
      go_wp2_with (go_at_call 21; refine KA.out.mono ?_; rintro e w2 ⟨k, rfl, hk, hb2⟩; have Hk := Lib.hid hk; have Hb2 := Lib.hid hb2; clear hk hb2)
      go_meet
      exact ⟨k, rfl, by rw [← Hx.out, ← Hy.out, ← List.map_drop]; exact Hk.out, Hb2.out⟩
    · have hA0 : ∃ gA, A = some ⟨gA, 0, none⟩ := by
        rcases Hown.out.2 with ⟨hv, hn0⟩ | ⟨gA, cap, cur, hv, _⟩
        · injection hv with _ h2 h3
          exact absurd (show c = p by omega) hcp
        · injection hv with hv _ _
          exact ⟨gA, hv⟩
      obtain ⟨gA, rfl⟩ := hA0
      rw [if_neg (by omega)] at hs0
      simp only [Option.map_some, Addr.add_lit, Nat.zero_add] at hs0
      have KA := Lib.hid (hA _ (c - p) hs0)
      clear hA hs0
      go_wp2_with (go_at_call 21; refine KA.out.mono ?_; rintro e w2 ⟨k, rfl, hk, hb2⟩; have Hk := Lib.hid hk; have Hb2 := Lib.hid hb2; clear hk hb2)
      go_meet
      exact ⟨k, rfl, by rw [← Hx.out, ← Hy.out, ← List.map_drop]; exact Hk.out, Hb2.out⟩
  case rest =>
    obtain ⟨k, rfl, hk, hb2⟩ := hcut
    have hkx := hk.lx
    have hky := hk.ly
    have hlx : x.length = n := by rw [← Hx.out, List.length_map, Hn.out]
    have hly : y.length = m := by rw [← Hy.out, List.length_map, Hm.out]
    rw [List.length_drop, hlx] at hkx
    rw [hly] at hky
    have Hk := Lib.hid hk; have Hlx := Lib.hid hlx; have Hly := Lib.hid hly; have Hb2 := Lib.hid hb2
    clear hk hlx hly hb2 a0 a2
    by_cases hkm : k = m
    · subst hkm
      have KN := Lib.hid (next_any B g n q base term X _ (H1.out.below Hb2.out) Hn.out H0.out (by have := H3.out; omega) (by omega))
      go_wp2_with (go_at_call 15; refine KN.out.mono ?_; rintro e w3 ⟨rfl, hb3⟩; have Hb3 := Lib.hid hb3; clear hb3)
      go_ret2
      refine ⟨k, Hk.out, .inl ⟨Hly.out.symm, by rw [Hlx.out]; rfl, GrewL.of_below ⟨X, Hx.out, H.out⟩ (Hb1.out.trans ((Hb2.out.trans (Hb3.out.mono Hb2.out.size)).mono Hb1.out.size))⟩⟩
    · have hlt : k < m := by omega
      have e1 : ((k : Int) == (m : Int)) = false := by simp; omega
      have k0 : (0 : Int) ≤ (k : Int) := by omega
      have hpk : p + k ≤ n := by omega
      have s1 : IntKind.i64.wrap ((p : Int) + (k : Int)) = ((p + k : Nat) : Int) := by rw [i64_add (by omega) (by omega)]; omega
      obtain ⟨i, hi⟩ : ∃ i, p + k = i := ⟨_, rfl⟩
      rw [hi] at s1 hpk
      have HI := Lib.hid hi
      have b0 : wc.drew.cell? ⟨g, 2, none⟩ = some (.slice A n c) := (Hb2.out.drew.cell (p := ⟨g, 2, none⟩) (Array.getElem?_eq_some_iff.1 Hrow.out).1).trans (row_cell Hrow.out 2)
      have rowc : wc.drew.heap[g]? = some (.cells #[.int .i64 base, .int .i64 term, .slice A n c] 43 (0, 0)) := (Hb2.out.drew.block g (Array.getElem?_eq_some_iff.1 Hrow.out).1).trans Hrow.out
      have Rowc := Lib.hid rowc
      have H2 := Lib.hid (H1.out.below Hb2.out.drew)
      have KD := Lib.hid (Delete_end B i n c A X wc.drew (own_belowM Hown.out Hb2.out.drew) Hn.out hpk)
      clear hi rowc hkm hkx hky hpl hp2 hp1
      go_upto_region 9 with fail
      go_cut [13] (fun v wx => v = .int .i64 (k : Int) ∧ LogAt wx B g q base term (X.take i) ∧ Turned (FootL g q) w wx)
      case first =>
        go_region_with (go_at_call 22; refine KD.out.mono ?_; rintro e w3 ⟨rfl, hown3, ht3⟩; have t3 := ht3 (fun k => q = some k) (fun k e => by rw [← Hq.out]; revert e; cases A <;> exact fun e => e); have r3 := t3.heap Rowc.out H2.out.apart; have c3 := row_cell r3 2; have z3 := row_frozen r3 2; have T3 := Lib.hid t3; have Hown3 := Lib.hid hown3; clear hown3 ht3 t3 r3)
        all_goals
          go_wp2_with fail
          go_meet
          have hS := H2.out.shorter Rowc.out Hn.out Hq.out hpk Hown3.out T3.out
          exact ⟨rfl, hS.1, (Turned.of_below (p := FootL g q) (Hb1.out.trans (Hb2.out.drew.mono Hb1.out.size))).trans hS.2 (fun _ e => e) (fun _ _ e => e)⟩
      case rest =>
        obtain ⟨rfl, h5, t5⟩ := hcut
        have hnb := H.out.noBytes
        have hYne : Y ≠ [] := fun e => by have := Hm.out; rw [e] at this; simp at this; omega
        obtain ⟨gC, oC, hCe⟩ : ∃ gC oC, C = some ⟨gC, oC, none⟩ := by
          obtain ⟨y0, hy0⟩ : ∃ y0, Y[k]? = some y0 := ⟨_, List.getElem?_eq_getElem (by have := Hm.out; omega)⟩
          obtain ⟨gC, oC, e, _⟩ := HY.out.see.ent hy0
          exact ⟨gC, oC, e⟩
        subst hCe
        have HY5 := Lib.hid (show ∀ w', Turned (FootL g q) w w' → EntsAt w' (some ⟨gC, oC, none⟩) Y from fun w' ht => HY.out.turned ht hnb fun g' o' e => HC.out g' o' e hYne)
        have k1 : (k : Int) ≤ (m : Int) := by omega
        have k2 : (k : Int) ≤ (d : Int) := by omega
        have k3 : k ≤ d := by omega
        have k4 : ¬ d = k := by omega
        have Hst : Hid (GrewL B g q base term (x.take i ++ (y.drop k).take 0) w _) := Lib.hid ⟨q, ⟨X.take i, by rw [List.take_zero, List.append_nil, ← Hx.out, List.map_take], h5⟩, fun k hk => .inl hk, t5⟩
        clear h5 t5 hnb hYne e1
        go_wp2
        go_loopw [76] (fun iv wr => ∃ j : Nat, j ≤ m - k ∧ iv = .int .i64 (j : Int) ∧ GrewL B g q base term (x.take i ++ (y.drop k).take j) w wr) (fun iv _ => m - k - (intOf iv).toNat)
        case atStart => exact ⟨0, by omega, rfl, Hst.out⟩
        case round =>
          obtain ⟨j, hj, rfl, hg⟩ := hrel
          have Hg := Lib.hid hg
          clear hg
          have j0 : (0 : Int) ≤ (j : Int) := by omega
          by_cases hlt2 : j < m - k
          · obtain ⟨e, he⟩ : ∃ e, Y[k + j]? = some e := ⟨_, List.getElem?_eq_getElem (by have := Hm.out; omega)⟩
            obtain ⟨q1, ⟨X1, hX1, h1⟩, hq1, t1⟩ := Hg.out
            have hYr := HY5.out _ t1
            obtain ⟨gx, ox, hgx, l0, l1, l2⟩ := hYr.see.ent he
            injection hgx with hgx
            injection hgx with hg1 hg2
            subst hg1; subst hg2
            have hoff : oC + (k + j) * 3 = oC + k * 3 + j * 3 := by omega
            rw [hoff] at l0 l1 l2
            have hld0 := ldEnt_run l0 l1 l2
            have hok := hYr.ok e (List.mem_of_getElem? he)
            obtain ⟨n1, hn1⟩ : ∃ n1, X1.length = n1 := ⟨_, rfl⟩
            have hn1b : n1 ≤ 100000 := by
              rw [← hn1, ← List.length_map (f := Ent.dat), hX1, List.length_append, List.length_take, List.length_take, List.length_drop]
              have := Hlx.out; have := Hly.out; omega
            obtain ⟨A1, c1, hrow1, hown1, hqq1⟩ := h1.row
            rw [hn1] at hrow1 hown1 hqq1
            obtain ⟨W, hW, hbW, hxW⟩ := ent_box wr e
            have hxd : W.drew.heap[wr.heap.size]? = some (.cells #[.int .i64 e.t, .int .i64 e.k, .slice e.A e.n e.c] 28 (0, 0)) := hxW
            have hld := ldEnt_run (e := e) (row_cell hxd 0) (row_cell hxd 1) (row_cell hxd 2)
            have hbWd : Below wr.heap.size wr W.drew := hbW.drew
            have a2 : W.drew.cell? ⟨g, 2, none⟩ = some (.slice A1 n1 c1) := (hbWd.cell (p := ⟨g, 2, none⟩) (Array.getElem?_eq_some_iff.1 hrow1).1).trans (row_cell hrow1 2)
            have KC := Lib.hid (clone_any e.t e.k e.A e.n e.c e.bs W.drew hok.len hok.small (hok.see.1.below hbWd))
            have Hwr := Lib.hid t1.size
            have H6 := Lib.hid h1; have Hrow1 := Lib.hid hrow1; have Hown1 := Lib.hid hown1; have Hqq1 := Lib.hid hqq1; have Hbw2 := Lib.hid hbWd; have He := Lib.hid he; have HX1 := Lib.hid hX1; have Hq1 := Lib.hid hq1; have T1 := Lib.hid t1; have Hok := Lib.hid hok; have Hn1 := Lib.hid hn1
            have hel := hok.small
            clear hYr l0 l1 l2 hoff hok hrow1 hown1 hqq1 hbW hxW hxd hbWd h1 he hX1 hq1 t1 hn1
            go_upto_region 13 with fail
            go_region_law (first
              | (go_simp; go_at_call 16; go_loud (refine KC.out.mono ?_; rintro en w5 ⟨A5, c5, rfl, hown5, hb5⟩; simp only at hown5; obtain ⟨w6, hw6, hb6, hh6⟩ := ent_box w5 ⟨e.t, e.k, A5, e.n, c5, e.bs⟩; simp only at hw6 hh6; have b5 := Hbw2.out.trans (hb5.mono Hbw2.out.size); have b6 := b5.trans (hb6.mono b5.size); have a5 : w5.cell? ⟨g, 2, none⟩ = some (.slice A1 n1 c1) := (b5.cell (p := ⟨g, 2, none⟩) (Array.getElem?_eq_some_iff.1 Hrow1.out).1).trans (row_cell Hrow1.out 2); have a6 : w6.cell? ⟨g, 2, none⟩ = some (.slice A1 n1 c1) := (b6.cell (p := ⟨g, 2, none⟩) (Array.getElem?_eq_some_iff.1 Hrow1.out).1).trans (row_cell Hrow1.out 2); have Hown6 := Lib.hid (own_below hown5 hb6); have Hown := Lib.hid (own_belowM Hown1.out b6); have Hb6 := Lib.hid b6; have Hsee6 := Lib.hid (Seen.of_cells hh6); clear hown5 hb5 hb6 hh6 b5 b6))
              | (refine step_app3 (by rfl) (.tmp 84) (.tmp 87) _ (by rfl) 28 _ 3 40 Try.underlying35 ent_info rfl (by omega) B A1 n1 c1 (entsV X1) (by rfl) Hown.out w5.heap.size 0 1 1 (entC ⟨e.t, e.k, A5, e.n, c5, e.bs⟩) (by rfl) rfl Hsee6.out (by simp [entC, Value.oneCell']) (by unfold maxLen; omega) (by omega) (by have := Hb6.out.size; have := Hwr.out; have := HBw.out; omega) ?_; intro A7 c7 w7 hown7 hg7 hk7; have Hown7 := Lib.hid hown7; have Hg7 := Lib.hid hg7; have Hk7 := Lib.hid hk7; have t7 := Turned.of_grown (p := fun k => (Value.slice A1 n1 c1).ownBlock = some k) hg7 (fun k e => e); have r7 := t7.heap ((Hb6.out.block g (Array.getElem?_eq_some_iff.1 Hrow1.out).1).trans Hrow1.out) (fun e => H6.out.apart (by rw [← Hqq1.out]; exact e)); have a7 := row_cell r7 2; have z7 := row_frozen r7 2; clear hown7 hg7 hk7 t7 r7))
            all_goals
              go_wp2
              go_roundw
              case rel =>
                refine ⟨j + 1, by omega, by go_num, ?_⟩
                have hL := H6.out.longer (e := ⟨e.t, e.k, A5, e.n, c5, e.bs⟩) Hrow1.out Hn1.out Hqq1.out Hb6.out ⟨Hok.out.len, hel, SeenU.own Hown6.out⟩ Hown7.out Hg7.out Hk7.out
                have hd : (X1 ++ [(⟨e.t, e.k, A5, e.n, c5, e.bs⟩ : Ent)]).map Ent.dat = x.take i ++ (y.drop k).take (j + 1) := by
                  have hyj : (y.drop k)[j]? = some (e.t, e.k, e.bs) := by
                    rw [List.getElem?_drop, ← Hy.out, List.getElem?_map, He.out]
                    rfl
                  rw [List.map_append, HX1.out, List.append_assoc]
                  congr 1
                  obtain ⟨hl, hv⟩ := List.getElem?_eq_some_iff.1 hyj
                  rw [List.take_succ_eq_append_getElem hl, hv]
                  rfl
                rw [hd] at hL
                exact GrewL.step Hq1.out T1.out hL
              case measure => simp [intOf]; omega
          · obtain rfl : j = m - k := by omega
            have hall : (y.drop k).take (m - k) = y.drop k := List.take_of_length_le (by rw [List.length_drop, Hly.out]; exact Nat.le_refl _)
            have Hall := Lib.hid hall
            clear hall
            go_wp2
            go_ret2
            refine ⟨k, Hk.out, .inr ⟨by rw [Hly.out]; exact hlt, by rw [Hi.out]; rfl, ?_⟩⟩
            have hg := Hg.out
            rw [Hall.out] at hg
            rw [HI.out]
            exact hg
end Go.Proofs.Ytigjkmlhpefafaa
