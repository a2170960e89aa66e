/-
  Joined: RfNew, VolGrt, Plv. Conditions: each theorem's own.
-/
import Derived.Test.YteebkolccbcehaaGreatJP
import Derived.Test.YteebkolccbcehaaGreatJE
import Derived.Maps.OwnOps
import Derived.Laws.OwnMore
import Derived.Test.YteebkolccbcehaaGreatKC
import Derived.Test.YteebkolccbcehaaGreatJL
import Derived.Test.YteebkolccbcehaaGreatShw
import Derived.Test.YteebkolccbcehaaGreatRfAp

section
set_option linter.all false
namespace Go.Proofs.YteebkolccbcehaaGreat
open Go.ChangeShapes Go.WideShapes Go.ChangeAt Go.RowKit
def rf0 (P : Sl) : Rf := ⟨P, Sl.nil, Sl.nil, 1, [], [], fun _ => 0⟩
theorem rf0_ok {w : World} {B n c : Nat} {A : Option Addr} (h : w.ownsRow B 3 1 (.slice A n c) n (zo (yJ fun _ => 0))) : RfOk w (rf0 ⟨A, n, c⟩) :=
 ⟨zQ.own h, VsT.nil w, KsT.nil w, Nat.zero_le _, Nat.zero_le _, fun i _ => ⟨Int.le_refl _, by show (0 : Int) <= 64; omega⟩⟩
theorem made_picks : (madeCells (Value.int .i64 0).cells (16 * 1)).toList = zo (yJ fun _ => 0) := by kernel_rfl
def stRfN (p v : Value) : Sem Unit := Instr.storeAt 32 p v
theorem stRfN_eq (p v : Value) : Instr.storeAt 32 p v = stRfN p v := rfl
theorem stRfN_run {w : World} {g : Nat} {cs : Array Value} {T : TypeId} (h : w.heap[g]? = some (.cells cs T (0, 0))) (hs : cs.size = 4) (P V K : Sl) (nx : Int) :
  ∃ w', (stRfN (.pointer (some ⟨g, 0, none⟩)) (.agg #[.slice P.A P.n P.c, .slice V.A V.n V.c, .slice K.A K.n K.c, .int .i64 nx])).run Tryz.prog w = .ok () w' /\
   w'.heap[g]? = some (.cells #[.slice P.A P.n P.c, .slice V.A V.n V.c, .slice K.A K.n K.c, .int .i64 nx] T (0, 0)) /\ Turned (fun k => k = g) w w' :=
 ZH (T := 32) h (by rw [hs]; rfl) zw (by simp [Value.oneCell'])
def bdRf (parts : Array (Nat × Value)) : Sem Value := Instr.build 32 parts
theorem bdRf_eq (parts : Array (Nat × Value)) : Instr.build 32 parts = bdRf parts := rfl
theorem bdRf_run0 (w : World) (A : Option Addr) (n c : Nat) : (bdRf #[(0, .slice A n c), (3, .int .i64 1)]).run Tryz.prog w = .ok (.agg #[.slice A n c, .slice none 0 0, .slice none 0 0, .int .i64 1]) w := by kernel_rfl
attribute [local go_sem ↓] stRfN_eq bdRf_eq
set_option maxRecDepth 100000 in
set_option maxHeartbeats 2000000 in
theorem RNew (w : World) : Calls Tryz.prog 7 #[] w fun e w' => ∃ P : Sl, e = .returned (Rf.val (rf0 P)) /\ RfOk w' (rf0 P) /\ Below w.heap.size w w' := by
 obtain ⟨i0, hi0, hz0, hz1, hz2⟩ := info_parts zP
 have HI := ihq (And.intro hi0 (And.intro hz0 (And.intro hz1 hz2)))
 clear hi0 hz0 hz1 hz2
 obtain ⟨w1, hw1⟩ : ∃ w1, w.alloc (.cells #[.slice none 0 0, .slice none 0 0, .slice none 0 0, .int .i64 0] 32) = w1 := ⟨_, rfl⟩
 have hb1 : Below w.heap.size w w1 := by rw [<- hw1]; exact zg _ _
 have hr1 : w1.heap[w.heap.size]? = some (.cells #[.slice none 0 0, .slice none 0 0, .slice none 0 0, .int .i64 0] 32 (0, 0)) := by rw [<- hw1]; exact heap_alloc_new _ _
 have Hb1 := ihq hb1; have Hr1 := ihq hr1
 have Lg := ihq (Array.getElem?_eq_some_iff.1 hr1).1
 have hbd := bdRf_run0
 clear hb1 hr1
 go_enter Tryz.func7, Tryz.ntmps7
 go_wp2_with (at_make; go_loud (refine wpList_make_full _ rfl (.const (.int .i64 16)) (.const (.int .i64 16)) _ rfl w1.heap.size 3 i0 _ 1 Tryz.underlying28 HI.out.1 HI.out.2.1 HI.out.2.2.1 .i64 .i64 _ _ 16 rfl rfl rfl rfl (by rw [HI.out.2.2.2]; omega) (by unfold maxLen; omega) (Nat.le_refl _) ?_; intro w2 hown2 hg2; have hb2 : Below w1.heap.size w1 w2 := (Below.refl w1.heap.size w1).grown hg2 (Nat.le_refl _) (by simp); rw [made_picks] at hown2; have Ho2 := ihq hown2; have Hb2 := ihq hb2; obtain ⟨w3, hst, hr3, ht3⟩ := stRfN_run ((hb2.block w.heap.size Lg.out).trans Hr1.out) rfl ⟨some ⟨w1.heap.size, 0, none⟩, 16, 16⟩ Sl.nil Sl.nil 1; simp only [Sl.nil] at hst hr3; have Hr3 := ihq hr3; have Ht3 := ihq ht3; clear hr3 ht3 hown2 hg2 hb2))
 refine bodyPost_ret (results_cell_row rfl _ _ w.heap.size 32 _ (0, 0) _ rfl Hr3.out Tryz.underlying32 rfl zw) rfl ?_
 have lg := Lg.out
 refine ⟨⟨some ⟨w1.heap.size, 0, none⟩, 16, 16⟩, rfl, rf0_ok (ze Ht3.out Ho2.out fun k e hk => ?_), (Hb1.out.trans (Hb2.out.mono Hb1.out.size)).trans (Ht3.out.below (fun k e => by omega) (by have := Hb1.out.size; have := Hb2.out.size; omega))⟩
 have := (Ho2.out.lt k e).1
 omega
end Go.Proofs.YteebkolccbcehaaGreat
end

section
set_option linter.all false
namespace Go.Proofs.YteebkolccbcehaaGreat
open Go.ChangeShapes Go.WideShapes Go.ChangeAt Go.RowKit
def bigC (c : Cmd) : Bool := (decide (c.k = 2) || decide (c.k = 4)) && (decide (40 < c.b) && decide (c.b <= 512))
def yU (l : List Cmd) : Bool := (l.take 30).any bigC || decide (30 < l.length)
set_option maxRecDepth 100000 in
set_option maxHeartbeats 2000000 in
theorem Vgreat (A : Option Addr) (n cp : Nat) (l : List Cmd) (w : World) (hn : l.length = n) (hm : n <= maxLen) (hs : Ze w A l) :
  Calls Tryz.prog 4 #[.slice A n cp] w fun e w' => e = .returned (.bool (yU l)) /\ w = w' := by
 unfold maxLen at hm
 have HS := ihq hs; have Hn := ihq hn
 clear hn hs
 go_enter Tryz.func4, Tryz.ntmps4
 go_wp2
 go_loopw [3] (fun iv wr => ∃ i : Nat, i <= n /\ i <= 30 /\ iv = .int .i64 (i : Int) /\ (l.take i).any bigC = false /\ w = wr) (fun iv _ => n - (intOf iv).toNat)
 case atStart => exact ⟨0, by omega, by omega, rfl, by simp, rfl⟩
 case round =>
  obtain ⟨i, hin, hi30, rfl, hno, rfl⟩ := hrel
  by_cases hi : i < n
  ·by_cases h30 : i < 30
   ·obtain ⟨g, o, x, hA, hx, hat⟩ := HS.out.get (k := i) (by rw [Hn.out]; exact hi)
    have d0 := hat.1 0 _ rfl
    have d2 := hat.1 2 _ rfl
    rw [Nat.add_zero] at d0
    have i0 : (0 : Int) <= (i : Int) := by omega
    have i1 : (i : Int) < (n : Int) := by omega
    have i2 : (i : Int) < 30 := by omega
    have htk : l.take (i + 1) = l.take i ++ [x] := by
     obtain ⟨h1, h2⟩ := List.getElem?_eq_some_iff.1 hx
     rw [List.take_succ_eq_append_getElem h1, h2]
    have hyes : bigC x = true -> yU l = true := fun hb => by
     unfold yU
     rw [Bool.or_eq_true]
     refine .inl ?_
     rw [List.any_eq_true]
     refine ⟨x, ?_, hb⟩
     have h1 : x ∈ l.take (i + 1) := by rw [htk]; simp
     have h2 : l.take (i + 1) = (l.take 30).take (i + 1) := by rw [List.take_take, Nat.min_eq_left (by omega)]
     rw [h2] at h1
     exact List.mem_of_mem_take h1
    have hnx : bigC x = false -> (l.take (i + 1)).any bigC = false := fun hb => by
     rw [htk, List.any_append, hno]
     simp [hb]
    have Hyes := ihq hyes; have Hnx := ihq hnx
    clear htk hyes hnx hno hx hat
    subst hA
    obtain ⟨xk, hxk⟩ : ∃ xk, x.k = xk := ⟨_, rfl⟩
    obtain ⟨xb, hxb⟩ : ∃ xb, x.b = xb := ⟨_, rfl⟩
    rw [hxk] at d0
    rw [hxb] at d2
    have hbig : bigC x = ((decide (xk = 2) || decide (xk = 4)) && (decide (40 < xb) && decide (xb <= 512))) := by unfold bigC; rw [hxk, hxb]
    have Hbig := ihq hbig
    clear hbig hxk hxb
    have hk : xk = 2 \/ xk = 4 \/ (xk ≠ 2 /\ xk ≠ 4) := by omega
    have hgo : ∀ b, bigC x = b -> b = false -> (l.take (i + 1)).any bigC = false := fun b e1 e2 => Hnx.out (e1.trans e2)
    have Hgo := ihq hgo
    clear hgo
    have hb3 : (40 < xb /\ xb <= 512) \/ (40 < xb /\ ¬ xb <= 512) \/ ¬ 40 < xb := by omega
    rcases hk with hk | hk | ⟨hk, hk'⟩
    ·have k2 : (xk == 2) = true := by simpa using hk
     rcases hb3 with ⟨b1, b2⟩ | ⟨b1, b2⟩ | b1
     ·have hb : yU l = true := Hyes.out (by rw [Hbig.out, hk, decide_eq_true b1, decide_eq_true b2]; rfl)
      have Hb := ihq hb
      clear hb hk
      go_wp2
      go_ret
      exact ⟨by rw [Hb.out]; first | done | rfl, by trivial⟩
     ·have Hb := ihq (Hnx.out (by rw [Hbig.out, decide_eq_false b2]; simp))
      clear hk
      go_wp2
      go_roundw
      case rel => exact ⟨i + 1, by omega, by omega, by go_num, Hb.out, by trivial⟩
      case measure => simp [intOf]; omega
     ·have Hb := ihq (Hnx.out (by rw [Hbig.out, decide_eq_false b1]; simp))
      clear hk
      go_wp2
      go_roundw
      case rel => exact ⟨i + 1, by omega, by omega, by go_num, Hb.out, by trivial⟩
      case measure => simp [intOf]; omega
    ·have k2 : (xk == 2) = false := by rw [hk]; rfl
     have k4 : (xk == 4) = true := by simpa using hk
     rcases hb3 with ⟨b1, b2⟩ | ⟨b1, b2⟩ | b1
     ·have hb : yU l = true := Hyes.out (by rw [Hbig.out, hk, decide_eq_true b1, decide_eq_true b2]; rfl)
      have Hb := ihq hb
      clear hb hk
      go_wp2
      go_ret
      exact ⟨by rw [Hb.out]; first | done | rfl, by trivial⟩
     ·have Hb := ihq (Hnx.out (by rw [Hbig.out, decide_eq_false b2]; simp))
      clear hk
      go_wp2
      go_roundw
      case rel => exact ⟨i + 1, by omega, by omega, by go_num, Hb.out, by trivial⟩
      case measure => simp [intOf]; omega
     ·have Hb := ihq (Hnx.out (by rw [Hbig.out, decide_eq_false b1]; simp))
      clear hk
      go_wp2
      go_roundw
      case rel => exact ⟨i + 1, by omega, by omega, by go_num, Hb.out, by trivial⟩
      case measure => simp [intOf]; omega
    ·have k2 : (xk == 2) = false := by simpa using hk
     have k4 : (xk == 4) = false := by simpa using hk'
     have Hb := ihq (Hnx.out (by rw [Hbig.out, decide_eq_false hk, decide_eq_false hk']; rfl))
     clear hk hk' hb3
     go_wp2
     go_roundw
     case rel => exact ⟨i + 1, by omega, by omega, by go_num, Hb.out, by trivial⟩
     case measure => simp [intOf]; omega
   ·have i30 : i = 30 := by omega
    have i2 : ¬ (i : Int) < 30 := by omega
    have i1 : (i : Int) < (n : Int) := by omega
    have l1 : (30 : Int) < (n : Int) := by omega
    have hb : yU l = true := by
     unfold yU
     rw [Bool.or_eq_true]
     exact .inr (decide_eq_true (by rw [Hn.out]; omega))
    have Hb := ihq hb
    clear hno hb i30
    go_wp2
    go_ret
    exact ⟨by rw [Hb.out]; first | done | rfl, by trivial⟩
  ·obtain rfl : i = n := by omega
   have i1 : ¬ (i : Int) < (i : Int) := by omega
   have l1 : ¬ (30 : Int) < (i : Int) := by omega
   have hb : yU l = false := by
    have e : l.take 30 = l.take i := by
     rw [List.take_of_length_le (by rw [Hn.out]; exact hi30), List.take_of_length_le (by rw [Hn.out]; exact Nat.le_refl _)]
    unfold yU
    rw [e, hno, decide_eq_false (by rw [Hn.out]; omega)]
    rfl
   have Hb := ihq hb
   clear hno hb
   go_wp2
   go_ret
   exact ⟨by rw [Hb.out]; first | done | rfl, by trivial⟩
end Go.Proofs.YteebkolccbcehaaGreat
end

section
set_option linter.all false
namespace Go.Proofs.YteebkolccbcehaaGreat
open Go.ChangeShapes Go.WideShapes Go.ChangeAt Go.RowKit
theorem RfOk.turnedV {V V' : World} {f : Rf} {g : Nat} {s : St} (ok : RfOk V f) (hs : StAt V g s) (ht : Turned (fun b => b = g) V V') : RfOk V' f := by
 obtain ⟨cs, K, X, h⟩ := hs
 have hg := h.row
 have no : ∀ {T : TypeId}, T ≠ 57 -> NoT V T (fun b => b = g) := fun {T} hT b cs' fr hb e => by
  subst hb
  rw [hg] at e; injection e with e; injection e with _ e; exact hT e.symm
 exact ⟨ok.p.turned ht (no (by decide)), ok.v.turned ht (no (by decide)) (no (by decide)), ok.k.turned ht (no (by decide)) (no (by decide)), ok.vl, ok.kl, ok.pin⟩
theorem StAt.turnedR {V V' : World} {g gx : Nat} {s : St} {cs : Array Value} (hs : StAt V g s) (hx : V.heap[gx]? = some (.cells cs 32 (0, 0))) (ht : Turned (fun b => b = gx) V V') : StAt V' g s := by
 have hne : g ≠ gx := fun e => by
  subst e
  obtain ⟨cs', K, X, h⟩ := hs
  have := h.row
  rw [hx] at this; injection this with this; injection this with _ this; exact absurd this (by decide)
 have no : ∀ {T : TypeId}, T ≠ 32 -> NoT V T (fun b => b = gx) := fun {T} hT b cs' fr hb e => by
  subst hb
  rw [hx] at e; injection e with e; injection e with _ e; exact hT e.symm
 exact hs.turned ht (fun e => hne e) ⟨no (by decide), no (by decide)⟩
theorem StAt.neR {V : World} {g gx : Nat} {s : St} {cs : Array Value} (hs : StAt V g s) (hx : V.heap[gx]? = some (.cells cs 32 (0, 0))) : gx ≠ g := fun e => by
 subst e
 obtain ⟨cs', K, X, h⟩ := hs
 have := h.row
 rw [hx] at this; injection this with this; injection this with _ this; exact absurd this (by decide)
theorem rf_new (w : World) (f : Rf) : ∃ wz w3, w.alloc (.cells #[.slice none 0 0, .slice none 0 0, .slice none 0 0, .int .i64 0] 32) = wz /\
  (stRf (.pointer (some ⟨w.heap.size, 0, none⟩)) (.agg #[.slice f.p.A f.p.n f.p.c, .slice f.v.A f.v.n f.v.c, .slice f.k.A f.k.n f.k.c, .int .i64 f.nx])).run Tryz.prog wz = .ok () w3 /\ Below w.heap.size w w3 /\
  w3.heap[w.heap.size]? = some (.cells #[.slice f.p.A f.p.n f.p.c, .slice f.v.A f.v.n f.v.c, .slice f.k.A f.k.n f.k.c, .int .i64 f.nx] 32 (0, 0)) := by
 obtain ⟨wz, hw⟩ : ∃ wz, w.alloc (.cells #[.slice none 0 0, .slice none 0 0, .slice none 0 0, .int .i64 0] 32) = wz := ⟨_, rfl⟩
 have hb : Below w.heap.size w wz := by rw [<- hw]; exact zg _ _
 have hr : wz.heap[w.heap.size]? = some (.cells #[.slice none 0 0, .slice none 0 0, .slice none 0 0, .int .i64 0] 32 (0, 0)) := by rw [<- hw]; exact heap_alloc_new _ _
 obtain ⟨w3, h1, h2, h3⟩ := zk hr rfl f.p f.v f.k f.nx
 exact ⟨wz, w3, hw, h1, hb.trans (h3.below (fun k e => by omega) hb.size), h2⟩
theorem Ys {w : World} {g q : Nat} {c : Cmd} (h : xT w g q c) : (Ye (.pointer (some ⟨g, q, none⟩))).run Tryz.prog w = .ok (.agg #[.int .i64 c.k, .int .i64 c.a, .int .i64 c.b, .int .i64 c.c, .int .i64 c.p.re, .int .i64 c.p.we, .int .i64 c.p.li, .int .i64 c.p.bu]) w :=
 run_loadAt_mid w g q 39 (cmdV c) _ h.1 Tryz.underlying39 rfl cmd_info
theorem QQ {l : List Cmd} (h : yU l = false) : l.length <= 30 := by
 unfold yU at h
 rw [Bool.or_eq_false_iff] at h
 simpa using h.2
theorem Rel.new0 (P : Sl) : Rel st0 (rf0 P).dat := Rel.new
end Go.Proofs.YteebkolccbcehaaGreat
end
