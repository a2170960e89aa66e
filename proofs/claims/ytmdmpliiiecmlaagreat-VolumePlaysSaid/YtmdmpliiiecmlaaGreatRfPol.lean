/-
  Contracts of dotterelref18's Policies and Admits. Conditions: a state that can be read.
-/
import Derived.Test.YtmdmpliiiecmlaaGreatRfFn
import Derived.Test.YtmdmpliiiecmlaaGreatJC
namespace Go.Proofs.YtmdmpliiiecmlaaGreat
open Go.ChangeShapes Go.WideShapes Go.ChangeAt Go.RowKit
set_option linter.unusedVariables false

/-- policies of the first volumes of which a server has a chunk -/
def pN (r : RS) (sv : Int) (i : Nat) : List Pol := ((r.vs.take i).filter fun v => r.cs.any fun k => decide (k.vo = v.id) && hasK sv k).map RV.p
theorem pN_yes {r : RS} {sv : Int} {i : Nat} {v : RV} (hv : r.vs[i]? = some v) (h : (r.cs.any fun k => decide (k.vo = v.id) && hasK sv k) = true) : pN r sv (i + 1) = pN r sv i ++ [v.p] := by
  unfold pN
  rw [take_snoc hv, List.filter_append, List.map_append, List.filter_cons, if_pos h]
  rfl
theorem pN_no {r : RS} {sv : Int} {i : Nat} {v : RV} (hv : r.vs[i]? = some v) (h : (r.cs.any fun k => decide (k.vo = v.id) && hasK sv k) = false) : pN r sv (i + 1) = pN r sv i := by
  unfold pN
  rw [take_snoc hv, List.filter_append, List.filter_cons, if_neg (by rw [h]; simp)]
  simp
theorem pN_len (r : RS) (sv : Int) (i : Nat) : (pN r sv i).length ≤ i := by
  have := List.length_filter_le (fun v => r.cs.any fun k => decide (k.vo = v.id) && hasK sv k) (r.vs.take i)
  rw [List.length_take] at this
  simp only [pN, List.length_map]
  omega
theorem pN_all (r : RS) (sv : Int) {n : Nat} (h : r.vs.length = n) : pN r sv n = polsR r sv := by
  unfold pN polsR
  rw [List.take_of_length_le (by omega)]
def isN (r : RS) (v sv : Int) (k : Nat) : Bool := (r.cs.take k).any fun x => decide (x.vo = v) && hasK sv x
theorem isN_step {r : RS} {v sv : Int} {k : Nat} {x : Chk} (h : r.cs[k]? = some x) : isN r v sv (k + 1) = (isN r v sv k || (decide (x.vo = v) && hasK sv x)) := by
  unfold isN
  rw [take_snoc h, List.any_append]
  simp
theorem isN_all (r : RS) (v sv : Int) {n : Nat} (h : r.cs.length = n) : isN r v sv n = r.cs.any fun x => decide (x.vo = v) && hasK sv x := by
  unfold isN
  rw [List.take_of_length_le (by omega)]
theorem pN_in {w : World} {f : Rf} (h : RfOk w f) (sv : Int) (i : Nat) : ∀ p ∈ pN f.dat sv i, InP p := fun p hp => by
  obtain ⟨v, hv, rfl⟩ := List.mem_map.1 hp
  have h2 : v ∈ f.dat.vs := List.mem_of_mem_take (List.mem_filter.1 hv).1
  obtain ⟨x, hx, rfl⟩ := List.mem_map.1 h2
  exact h.v.inp x hx
-- a region most of whose operations aren't wanted: else each step weighs all that is left
attribute [local irreducible] wpQuiet
attribute [local go_sem ↓] ldCk_eq ldPol_eq
set_option maxRecDepth 100000 in
set_option maxHeartbeats 4000000 in
theorem RPolicies (f : Rf) (sv : Int) (w : World) (h : RfOk w f) :
    Calls Tryz.prog 28 #[f.val, .int .i64 sv] w (OwnRetM 36 4 (polsR f.dat sv).length (polsV (polsR f.dat sv)) w) := by
  unfold Rf.val
  obtain ⟨w1, hw1, hb1, hr⟩ := rf_box w f
  have c1 : w1.cell? ⟨w.heap.size, 1, none⟩ = some (.slice f.v.A f.v.n f.v.c) := row_cell hr 1
  have c2 : w1.cell? ⟨w.heap.size, 2, none⟩ = some (.slice f.k.A f.k.n f.k.c) := row_cell hr 2
  have H := Lib.hid (h.below hb1); have Hb1 := Lib.hid hb1
  have hn : f.dat.vs.length = f.v.n := (List.length_map ..).trans h.v.len
  have hm : f.dat.cs.length = f.k.n := (List.length_map ..).trans h.k.len
  have hl : f.dat.vs.length ≤ 64 := (show f.dat.vs.length = f.X.length from List.length_map ..) ▸ h.vl
  have hl2 : f.dat.cs.length ≤ 10000 := (show f.dat.cs.length = f.K.length from List.length_map ..) ▸ h.kl
  obtain ⟨n, en⟩ : ∃ n, f.v.n = n := ⟨_, rfl⟩
  obtain ⟨m, em⟩ : ∃ m, f.k.n = m := ⟨_, rfl⟩
  rw [en] at hn c1 hw1
  rw [em] at hm c2 hw1
  rw [en, em]
  have hl' : n ≤ 64 := by omega
  have hl2' : m ≤ 10000 := by omega
  have Hn := Lib.hid hn; have Hm := Lib.hid hm
  have C1 := Lib.hid c1; have C2 := Lib.hid c2
  have hlt0 : w.heap.size < w1.heap.size := (Array.getElem?_eq_some_iff.1 hr).1
  clear h hb1 hr hn hm hl hl2 en em c1 c2
  go_enter Tryz.func28, Tryz.ntmps28
  go_wp2
  go_loopw [5, 6] (fun lv iv wr => ∃ (i : Nat) (A' : Option Addr) (c' : Nat), i ≤ n ∧ iv = .int .i64 (i : Int) ∧ lv = .slice A' (pN f.dat sv i).length c' ∧ wr.ownsRow w1.heap.size 36 4 (.slice A' (pN f.dat sv i).length c') (pN f.dat sv i).length (polsV (pN f.dat sv i)) ∧ Below w1.heap.size w1 wr) (fun _ iv _ => n - (intOf iv).toNat)
  case atStart => exact ⟨0, _, _, by omega, rfl, rfl, World.ownsRow_nil _ _ _ _, Below.refl _ _⟩
  case round =>
    obtain ⟨wo, rfl⟩ : ∃ wo, wo = wr := ⟨_, rfl⟩
    obtain ⟨i, A', c', hin, rfl, rfl, ho, hb⟩ := hrel
    obtain ⟨q, hq⟩ : ∃ q, (pN f.dat sv i).length = q := ⟨_, rfl⟩
    have hq6 : q ≤ i := by have := pN_len f.dat sv i; omega
    rw [hq] at ho ⊢
    have c1 : wo.cell? ⟨w.heap.size, 1, none⟩ = some (.slice f.v.A n f.v.c) := by rw [hb.cell hlt0]; exact C1.out
    have Hb := Lib.hid hb; have Ho := Lib.hid ho; have Hq := Lib.hid hq
    clear hb ho hq
    by_cases hi : i < n
    · obtain ⟨v, hv⟩ : ∃ v, f.X[i]? = some v := ⟨_, List.getElem?_eq_getElem (by have := Hn.out; have e : f.dat.vs.length = f.X.length := List.length_map ..; omega)⟩
      have hd : f.dat.vs[i]? = some v.dat := by show (f.X.map Vk.dat)[i]? = _; rw [List.getElem?_map, hv]; rfl
      obtain ⟨gv, ov, hAv, hat⟩ := (H.out.below Hb.out).v.get hv
      have hpi := H.out.v.inp v (List.mem_of_getElem? hv)
      have Hat := Lib.hid hat; have Hd := Lib.hid hd; have HAv := Lib.hid hAv; have Hpi := Lib.hid hpi
      have i0 : (0 : Int) ≤ (i : Int) := by omega
      have i1 : (i : Int) < (n : Int) := by omega
      clear hv hd hat hpi hAv
      go_wp2
      go_loopw [7, 8] (fun bv kv wi => ∃ k : Nat, k ≤ m ∧ kv = .int .i64 (k : Int) ∧ bv = .bool (isN f.dat v.id sv k) ∧ Below wo.heap.size wo wi) (fun _ kv _ => m - (intOf kv).toNat)
      case atStart => exact ⟨0, by omega, rfl, rfl, Below.refl _ _⟩
      case round =>
        obtain ⟨k, hkm, rfl, rfl, hbi⟩ := hrel
        obtain ⟨wi, rfl⟩ : ∃ wi, wi = wr := ⟨_, rfl⟩
        have Hbi := Lib.hid hbi; clear hbi c1
        have hb2 := Hb.out.trans (Hbi.out.mono Hb.out.size)
        have c2 : wi.cell? ⟨w.heap.size, 2, none⟩ = some (.slice f.k.A m f.k.c) := by rw [hb2.cell hlt0]; exact C2.out
        have c1 : wi.cell? ⟨w.heap.size, 1, none⟩ = some (.slice f.v.A n f.v.c) := by rw [hb2.cell hlt0]; exact C1.out
        have hsz : w.heap.size < wi.heap.size := by have := hb2.size; omega
        obtain ⟨b, hbq⟩ : ∃ b, isN f.dat v.id sv k = b := ⟨_, rfl⟩
        rw [hbq]
        by_cases hk : k < m
        · obtain ⟨x, hx⟩ : ∃ x, f.K[k]? = some x := ⟨_, List.getElem?_eq_getElem (by have := Hm.out; have e : f.dat.cs.length = f.K.length := List.length_map ..; omega)⟩
          have hxd : f.dat.cs[k]? = some x.dat := by show (f.K.map Ck.dat)[k]? = _; rw [List.getElem?_map, hx]; rfl
          obtain ⟨gk, ok, hAk, hck⟩ := (H.out.below hb2).k.get hx
          have hok := (H.out.below hb2).k.ok x (List.mem_of_getElem? hx)
          have k0 : (0 : Int) ≤ (k : Int) := by omega
          have k1 : (k : Int) < (m : Int) := by omega
          have hs := isN_step (v := v.id) (sv := sv) hxd
          rw [hbq] at hs
          have Hs := Lib.hid hs
          have e1 : ∀ p : BelowOf wi, p.v.cell? ⟨w.heap.size, 1, none⟩ = some (.slice (some ⟨gv, ov, none⟩) n f.v.c) := fun p => by rw [p.h.cell hsz, c1, HAv.out]
          have e2 : ∀ p : BelowOf wi, p.v.cell? ⟨w.heap.size, 2, none⟩ = some (.slice (some ⟨gk, ok, none⟩) m f.k.c) := fun p => by rw [p.h.cell hsz, c2, hAk]
          have e3 : ∀ p : BelowOf wi, p.v.cell? ⟨gk, ok + k * 5 + 1, none⟩ = some (.int .i64 x.vo) := fun p => (hck.below p.h).c1
          have e4 : ∀ p : BelowOf wi, p.v.cell? ⟨gv, ov + i * 8, none⟩ = some (.int .i64 v.id) := fun p => ((Hat.out.below Hbi.out).below p.h).c0
          have e5 : ∀ p : BelowOf wi, _ := fun p => ldCk_run (hck.below p.h)
          have K := Lib.hid fun p : BelowOf wi => RHas x sv p.v (hok.below p.h)
          unfold ckA at K
          clear hx hxd hck hok hAk hs hbq hb2
          cases b with
          | true =>
            clear e3 e4 e5 K
            go_wp2
            refine wp_region_quiet_below (by kernel_rfl) (by kernel_rfl) ?_
            repeat (quiet_step (fail))
            refine wpQuiet_nil ?_
            rintro _ ⟨⟨w9, hb9⟩, rfl⟩
            have H9 := Lib.hid hb9; clear hb9
            go_wp2
            go_roundw
            case rel => exact ⟨k + 1, by omega, by go_num, by rw [Hs.out]; rfl, Hbi.out.trans (H9.out.mono Hbi.out.size)⟩
            case measure => simp [intOf]; omega
          | false =>
            by_cases hvo : x.vo = v.id
            · have dv : (x.vo == v.id) = true := by simpa using hvo
              have Hvo := Lib.hid hvo
              obtain ⟨y, hy⟩ : ∃ y, hasK sv x.dat = y := ⟨_, rfl⟩
              rw [hy] at K
              have Hy := Lib.hid hy
              clear hvo hy
              go_wp2
              refine wp_region_quiet_below (by kernel_rfl) (by kernel_rfl) ?_
              repeat (quiet_step (fail))
              quiet_step (exact Calls.below_of (K.out _))
              repeat (quiet_step (fail))
              refine wpQuiet_nil ?_
              rintro _ ⟨⟨w9, hb9⟩, rfl⟩
              have H9 := Lib.hid hb9; clear hb9
              go_wp2
              go_roundw
              case rel => exact ⟨k + 1, by omega, by go_num, by rw [Hs.out, show decide (x.dat.vo = v.id) = true from decide_eq_true Hvo.out, Hy.out]; rfl, Hbi.out.trans (H9.out.mono Hbi.out.size)⟩
              case measure => simp [intOf]; omega
            · have dv : (x.vo == v.id) = false := by simpa using hvo
              have Hvo := Lib.hid hvo
              clear hvo K
              go_wp2
              refine wp_region_quiet_below (by kernel_rfl) (by kernel_rfl) ?_
              repeat (quiet_step (fail))
              refine wpQuiet_nil ?_
              rintro _ ⟨⟨w9, hb9⟩, rfl⟩
              have H9 := Lib.hid hb9; clear hb9
              go_wp2
              go_roundw
              case rel => exact ⟨k + 1, by omega, by go_num, by rw [Hs.out, show decide (x.dat.vo = v.id) = false from decide_eq_false Hvo.out]; rfl, Hbi.out.trans (H9.out.mono Hbi.out.size)⟩
              case measure => simp [intOf]; omega
        · obtain rfl : k = m := by omega
          rw [isN_all f.dat v.id sv Hm.out] at hbq
          rw [HAv.out] at c1
          have k1 : ¬ (k : Int) < (k : Int) := by omega
          have hpat := (Hat.out.below Hbi.out).pol Hpi.out
          obtain ⟨vid, vbl, p, vver, vc, vids⟩ := v
          have hld := ldPol_run hpat
          cases b with
          | true =>
            have Hs := Lib.hid (pN_yes Hd.out hbq)
            obtain ⟨W3, hW3⟩ : ∃ W3, wi.alloc (.cells #[.int .i64 p.re, .int .i64 p.we, .int .i64 p.li, .int .i64 p.bu] 36) = W3 := ⟨_, rfl⟩
            have Hb3 := Lib.hid (show Below wi.heap.size wi W3 from (by rw [← hW3]; exact below_box _ _))
            have Hs3 := Lib.hid (show Seen W3 (some ⟨wi.heap.size, 0, none⟩) (polV p) from (by rw [← hW3]; exact Seen.of_cells (heap_alloc_new wi _)))
            have Ho3 := Lib.hid (own_belowM (own_belowM Ho.out Hbi.out) Hb3.out)
            have Hb13 := Lib.hid (hb2.trans (Hb3.out.mono hb2.size))
            clear hbq hpat hb2
            go_wp2_with (at_builtin; refine wpList_app3 rfl (.tmp 49) (.tmp 56) _ rfl 36 _ 4 32 Tryz.underlying75 pol_infoZ rfl (by omega) w1.heap.size A' q c' (polsV (pN f.dat sv i)) rfl Ho3.out wi.heap.size 0 1 1 (polV p) rfl rfl Hs3.out (fun u hu => by simp [polV] at hu; rcases hu with rfl | rfl | rfl | rfl <;> rfl) (by unfold maxLen; omega) (by omega) Hb13.out.size ?_; intro A4 c4 w4 hown4 hg4 hbk4; have Hown4 := Lib.hid hown4; have Hg4 := Lib.hid hg4; clear hown4 hg4 hbk4)
            go_roundw
            case rel =>
              have tg : Turned (fun k => (Value.slice A' q c').ownBlock = some k) W3 w4 := Turned.of_grown Hg4.out fun k e => e
              have el : (pN f.dat sv (i + 1)).length = q + 1 := by rw [Hs.out, List.length_append, Hq.out]; rfl
              refine ⟨i + 1, A4, c4, by omega, by go_num, by rw [el], ?_, ?_⟩
              · have := Hown4.out
                rw [el, Hs.out, polsV_append, show polsV [Vk.dat ⟨vid, vbl, p, vver, vc, vids⟩ |>.p] = polV p by simp [polsV, Vk.dat]]
                exact this
              · exact Hb13.out.trans (tg.below (fun k e => (Ho3.out.lt k e).1) Hb13.out.size)
            case measure => simp [intOf]; omega
          | false =>
            have Hs := Lib.hid (pN_no Hd.out hbq)
            have Hb2 := Lib.hid hb2
            clear hbq hpat hld hb2
            go_wp2
            go_roundw
            case rel => exact ⟨i + 1, A', c', by omega, by go_num, by rw [Hs.out, Hq.out], by rw [Hs.out, Hq.out]; exact own_belowM Ho.out Hbi.out, Hb2.out⟩
            case measure => simp [intOf]; omega
    · obtain rfl : i = n := by omega
      have i1 : ¬ (i : Int) < (i : Int) := by omega
      go_wp2
      go_ret
      rw [← pN_all f.dat sv Hn.out]
      refine ⟨A', c', ?_, ?_, Hb1.out.trans (Hb.out.mono Hb1.out.size)⟩
      · show _ = Ending.returned (.slice A' (pN f.dat sv i).length c')
        rw [Hq.out]; rfl
      · rw [Hq.out]
        exact own_baseM Ho.out Hb1.out.size
end Go.Proofs.YtmdmpliiiecmlaaGreat
