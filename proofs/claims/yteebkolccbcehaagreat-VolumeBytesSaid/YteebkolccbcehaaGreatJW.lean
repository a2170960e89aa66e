/-
  Joined: RfDoB, Shw0. Conditions: each theorem's own.
-/
import Derived.Test.YteebkolccbcehaaGreatRfDoA
import Derived.Test.YteebkolccbcehaaGreatRfDo8

section
set_option linter.all false
namespace Go.Proofs.YteebkolccbcehaaGreat
open Go.ChangeShapes Go.WideShapes Go.ChangeAt Go.RowKit
structure Yj (r : RS) : Prop where
 kf : KFit r
 nd : ∀ k ∈ r.cs, (k.ms ++ k.js).Nodup
 kl : r.cs.length <= 8000
 nx : 0 <= r.nx /\ r.nx <= 1099511627776
 vv : ∀ v ∈ r.vs, 0 <= v.ver /\ v.ver <= 35184372088832 /\ v.ids.length <= 64 /\ v.ids ≠ []
 fc : ∀ v ∈ r.vs, ∀ i ∈ v.ids, ∃ (j : Nat) (k : Chk), chIx r.cs i = some j /\ r.cs[j]? = some k /\ k.ms.length <= 16
 v63 : ∀ a, 0 <= a -> a <= 63 -> yS r.vs a = none -> r.vs.length <= 63
theorem Yj.of {n : Int} {s : St} {r : RS} (h : Rel s r) (hg : yy n s) (hn : n <= 1000000) : Yj r := by
 have hk : ∀ k ∈ r.cs, ∃ i : Nat, i < 64 /\ k ∈ (s.vs i).ks /\ YC s.pk s.md n i k := fun k hk => by
  obtain ⟨i, hi, hm⟩ := (h.cm k).1 hk
  exact ⟨i, hi, hm, (hg.vs i hi).ks k hm⟩
 have hv : ∀ v ∈ r.vs, ∃ i : Nat, i < 64 /\ (s.vs i).bl ≠ 0 /\ v = rvOf s i := fun v hv => (h.vm v).1 hv
 have hpre : PreF s := ⟨fun i hi k hk => ((hg.vs i hi).ks k hk).vo, fun i hi k hk => ((hg.vs i hi).ks k hk).id.2, fun i hi k hk => ((hg.vs i hi).ks k hk).nd, fun i hi => hg.ord.rise i hi, fun a b ha hb k hk k' hk' e => hg.ord.one a b ha hb k hk k' hk' e⟩
 have hcf : ∀ i, i < 64 -> (s.vs i).ks.length <= 64 := fun i hi => by
  have h1 := (hg.vs i hi).kl
  have h2 := (hg.vs i hi).bl
  unfold zx at h1
  omega
 have hperm : (zX s 64).Perm r.cs := (List.perm_ext_iff_of_nodup hpre.all (List.Pairwise.imp (R := fun a b : Chk => a.id < b.id) (fun {a b} hab e => by subst e; omega) h.cr)).2 fun k => by
  rw [h.cm]
  unfold zX
  rw [List.mem_flatMap]
  constructor
  ·rintro ⟨i, hi, hk⟩; exact ⟨i, List.mem_range.1 hi, hk⟩
  ·rintro ⟨i, hi, hk⟩; exact ⟨i, List.mem_range.2 hi, hk⟩
 have hall : ∀ n, n <= 64 -> (zX s n).length <= n * 64 := fun n => by
  induction n with
  | zero => intro _; simp [zX]
  | succ n ih =>
   intro hn
   have e : zX s (n + 1) = zX s n ++ (s.vs n).ks := by simp [zX, List.range_succ]
   rw [e, List.length_append]
   have := ih (by omega)
   have := hcf n (by omega)
   omega
 have hnx := h.nx
 have hmd := hg.md
 refine ⟨⟨fun k hk0 => ?_, fun k hk0 => ?_, fun k hk0 => ?_⟩, fun k hk0 => ?_, ?_, by omega, fun v hv0 => ?_, fun v hv0 i hi0 => ?_, fun a a0 a1 hno => ?_⟩
 ·obtain ⟨i, hi, hm, g⟩ := hk k hk0
  have := g.ep; omega
 ·obtain ⟨i, hi, hm, g⟩ := hk k hk0
  have := g.len; omega
 ·obtain ⟨i, hi, hm, g⟩ := hk k hk0
  have := g.len; omega
 ·obtain ⟨i, hi, hm, g⟩ := hk k hk0
  exact g.nd
 ·rw [<- hperm.length_eq]
  have := hall 64 (Nat.le_refl _)
  omega
 ·obtain ⟨i, hi, hb, rfl⟩ := hv v hv0
  have g := hg.vs i hi
  have h1 := g.ver hb
  have h2 := g.bl
  have h3 := g.kl
  have h4 := hcf i hi
  have el : (rvOf s i).ids.length = (s.vs i).ks.length := by simp [rvOf, idsK]
  refine ⟨by show 0 <= (s.vs i).ver; omega, by show (s.vs i).ver <= _; omega, by omega, fun e => ?_⟩
  rw [e] at el
  unfold zx at h3
  simp at el
  omega
 ·obtain ⟨j, hj, hb, rfl⟩ := hv v hv0
  obtain ⟨k, hkm, rfl⟩ := List.mem_map.1 (show i ∈ idsK (s.vs j).ks from hi0)
  have hkc := (h.cm k).2 ⟨j, hj, hkm⟩
  obtain ⟨q, hq1, hq2⟩ := Yf h.cr hkc rfl
  exact ⟨q, k, hq1, hq2, by have := ((hg.vs j hj).ks k hkm).len; omega⟩
 ·have hvs := h.vols
  have hno2 : ∀ x ∈ r.vs, x.id ≠ a := fun x hx e => by
   unfold yS at hno
   rw [List.findIdx?_eq_none_iff] at hno
   have := hno x hx
   simp [e] at this
  have hz : (s.vs a.toNat).bl = 0 := by
   by_cases hb : (s.vs a.toNat).bl = 0
   ·exact hb
   ·have hm := (h.vm (rvOf s a.toNat)).2 ⟨a.toNat, by omega, hb, rfl⟩
    exact absurd (show ((a.toNat : Nat) : Int) = a by omega) (hno2 _ hm)
  rw [hvs, List.length_map]
  have hlt : ((List.range 64).filter fun i => decide ((s.vs i).bl ≠ 0)).length < (List.range 64).length := by
   rw [List.length_filter_lt_length_iff_exists]
   exact ⟨a.toNat, List.mem_range.2 (by omega), by simp [hz]⟩
  rw [List.length_range] at hlt
  omega
theorem Rdo_any (f : Rf) (c : Cmd) (B : Nat) (w0 w : World) (ho : xh B w0 w f) (hf : Yj f.dat) (hc : yj c) (hk1 : 1 <= c.k) (hk8 : c.k <= 8) :
  Calls Tryz.prog 17 #[f.val, cmdA c] w (yg f (doR f.dat c).1 (doR f.dat c).2 w) := by
 have h := ho.ok
 have hget : ∀ {q : Nat}, yS f.dat.vs c.a = some q -> ∃ v : Vk, f.X[q]? = some v /\ f.dat.vs[q]? = some v.dat := fun {q} hv => by
  have hv' : f.dat.vs.findIdx? (fun v => decide (v.id = c.a)) = some q := hv
  obtain ⟨hl, _⟩ := List.findIdx?_eq_some_iff_getElem.1 hv'
  have e : f.dat.vs = f.X.map Vk.dat := rfl
  rw [e, List.length_map] at hl
  exact ⟨f.X[q], List.getElem?_eq_getElem hl, by rw [e, List.getElem?_map, List.getElem?_eq_getElem hl]; rfl⟩
 have hdl : f.dat.cs.length = f.K.length := List.length_map ..
 have hvl : f.dat.vs.length = f.X.length := List.length_map ..
 unfold doR
 by_cases e1 : c.k = 1
 ·rw [if_pos e1]
  by_cases hr : c.a < 0 \/ 15 < c.a \/ c.b < 1 \/ 64 < c.b
  ·rw [if_pos hr]; exact Rdo_1no f c w h hc e1 hr
  ·rw [if_neg hr]; exact Rdo_1yes f c c.a.toNat B w0 w ho hc e1 (by omega) (by omega) (by omega)
 rw [if_neg e1]
 by_cases e2 : c.k = 2
 ·rw [if_pos e2]
  by_cases hr : c.a < 0 \/ 63 < c.a \/ c.b < 1 \/ 512 < c.b \/ c.c < 1 \/ 3 < c.c \/ yc c.p = false
  ·rw [if_pos hr]
   by_cases hn : c.a < 0 \/ 63 < c.a \/ c.b < 1 \/ 512 < c.b \/ c.c < 1 \/ 3 < c.c
   ·exact Rdo_2num f c w h hc e2 hn
   ·exact Rdo_2pol f c w h hc e2 (by omega) (by omega) (by omega) (by omega) (by omega) (by omega) (by
     rcases hr with h | h | h | h | h | h | h
     ·exact absurd (.inl h) hn
     ·exact absurd (.inr (.inl h)) hn
     ·exact absurd (.inr (.inr (.inl h))) hn
     ·exact absurd (.inr (.inr (.inr (.inl h)))) hn
     ·exact absurd (.inr (.inr (.inr (.inr (.inl h))))) hn
     ·exact absurd (.inr (.inr (.inr (.inr (.inr h))))) hn
     ·exact h)
  ·rw [if_neg hr]
   have hp : yc c.p = true := by
    cases hb : yc c.p with
    | true => rfl
    | false => exact absurd (.inr (.inr (.inr (.inr (.inr (.inr hb)))))) hr
   have n1 : 0 <= c.a := by omega
   have n2 : c.a <= 63 := by omega
   have n3 : 1 <= c.b := by omega
   have n4 : c.b <= 512 := by omega
   have n5 : 1 <= c.c := by omega
   have n6 : c.c <= 3 := by omega
   cases hv : yS f.dat.vs c.a with
   | some q => exact Rdo_2is f c w h hc e2 n1 n2 n3 n4 n5 n6 hp q hv
   | none =>
    by_cases hs : ((zm f.dat.pk).length : Int) < c.c
    ·simp only [if_pos hs]; exact Rdo_2few f c w h hc e2 n1 n2 n3 n4 n5 n6 hp hv hs
    ·simp only [if_neg hs]
     exact Rdo_2yes f c B w0 w ho hc e2 n1 n2 n3 n4 n5 n6 hp hv hs hf.nd (by have := hf.kl; omega) hf.nx (by have := hf.v63 c.a n1 n2 hv; omega)
 rw [if_neg e2]
 by_cases e3 : c.k = 3
 ·rw [if_pos e3]
  cases hv : yS f.dat.vs c.a with
  | none => exact Rdo_3no f c w h hc e3 hv
  | some q =>
   obtain ⟨v, hX, hd⟩ := hget hv
   simp only [hd]
   exact Rdo_3yes f c q v w h hc e3 hv hX
 rw [if_neg e3]
 by_cases e4 : c.k = 4
 ·rw [if_pos e4]
  by_cases hr : c.b < 1 \/ 512 < c.b
  ·rw [if_pos hr]; exact Rdo_4no f c w h hc e4 hr
  ·rw [if_neg hr]
   cases hv : yS f.dat.vs c.a with
   | none => exact Rdo_4none f c w h hc e4 (by omega) (by omega) hv
   | some q =>
    obtain ⟨v, hX, hd⟩ := hget hv
    simp only [hd]
    have hvm : v.dat ∈ f.dat.vs := List.mem_of_getElem? hd
    obtain ⟨_, _, hl64, hne⟩ := hf.vv _ hvm
    obtain ⟨i0, il, hids⟩ : ∃ i0 il, v.ids = i0 :: il := by
     cases he : v.ids with
     | nil => exact absurd he hne
     | cons a b => exact ⟨a, b, rfl⟩
    obtain ⟨j, k, hj, hkj, hk16⟩ := hf.fc _ hvm i0 (by show i0 ∈ v.ids; rw [hids]; simp)
    obtain ⟨kk, hkk, hkd⟩ : ∃ kk : Ck, f.K[j]? = some kk /\ kk.dat = k := by
     have e : f.dat.cs = f.K.map Ck.dat := rfl
     rw [e, List.getElem?_map] at hkj
     cases hkk : f.K[j]? with
     | none => rw [hkk] at hkj; cases hkj
     | some kk => rw [hkk] at hkj; injection hkj with hkj; exact ⟨kk, rfl, hkj⟩
    have hcop : Y6 f.dat v.dat = kk.ms.length := by
     unfold Y6
     show (match v.ids with | [] => 0 | id :: _ => _) = _
     rw [hids]
     simp only [hj, hkj]
     rw [<- hkd]; rfl
    rw [hcop]
    exact Rdo_4yes f c q B j v kk i0 il w0 w ho hc e4 (by omega) (by omega) hv hX hids hj hkk hf.nd (by have := hf.kl; omega) hf.nx hl64 (by rw [<- hkd] at hk16; exact hk16)
 rw [if_neg e4]
 by_cases e5 : c.k = 5
 ·rw [if_pos e5]
  by_cases hr : yc c.p = false
  ·rw [if_pos hr]; exact Rdo_5no f c w h hc e5 hr
  ·rw [if_neg hr]
   have hp : yc c.p = true := by simpa using hr
   cases hv : yS f.dat.vs c.a with
   | none => exact Rdo_5none f c w h hc e5 hp hv
   | some q =>
    obtain ⟨v, hX, hd⟩ := hget hv
    simp only [hd]
    obtain ⟨v1, v2, _, _⟩ := hf.vv _ (List.mem_of_getElem? hd)
    exact Rdo_5yes f c q B v w0 w ho hc e5 hp hv hX ⟨v1, v2⟩
 rw [if_neg e5]
 exact Rdo_chunk f c B w0 w ho hf.kf hc (by omega)
end Go.Proofs.YteebkolccbcehaaGreat
end

section
set_option linter.all false
namespace Go.Proofs.YteebkolccbcehaaGreat
open Go.ChangeShapes Go.WideShapes Go.ChangeAt Go.RowKit
def yp (s : St) (n : Nat) : List Nat := (List.range n).filter fun i => decide ((s.vs i).bl ≠ 0)
theorem volsN_yes {s : St} {n : Nat} (h : (s.vs n).bl ≠ 0) : yp s (n + 1) = yp s n ++ [n] := by simp [yp, List.range_succ, h]
theorem volsN_no {s : St} {n : Nat} (h : (s.vs n).bl = 0) : yp s (n + 1) = yp s n := by simp [yp, List.range_succ, h]
theorem Zq (s : St) (n : Nat) : (yp s n).length <= n := by
 have := List.length_filter_le (fun i => decide ((s.vs i).bl ≠ 0)) (List.range n)
 simpa [yp] using this
theorem xW {s : St} {n x : Nat} (h : x ∈ yp s n) : x < n /\ (s.vs x).bl ≠ 0 := by
 unfold yp at h
 have := List.mem_filter.1 h
 exact ⟨List.mem_range.1 this.1, by simpa using this.2⟩
theorem XX {s : St} {i : Nat} (hi : i < 64) : yB s (i : Int) = decide ((s.vs i).bl ≠ 0) := by
 unfold yB
 rw [decide_eq_true (by omega : 0 <= (i : Int) /\ (i : Int) <= 63), Bool.true_and, Int.toNat_natCast]
set_option maxRecDepth 100000 in
set_option maxHeartbeats 2000000 in
theorem Ql (g : Nat) (s : St) (w : World) (h : StAt w g s) :
  Calls Tryz.prog 29 #[.pointer (some ⟨g, 0, none⟩)] w (Zp 3 1 (yp s 64).length (zo (toI (yp s 64))) w) := by
 have H := ihq h
 clear h
 go_enter Tryz.func29, Tryz.ntmps29
 go_wp2
 go_loopw [3, 7] (fun sv iv wr => ∃ (i n : Nat) (A' : Option Addr) (c' : Nat), i <= 64 /\ iv = .int .i64 (i : Int) /\ sv = .slice A' n c' /\ (yp s i).length = n /\ wr.ownsRow w.heap.size 3 1 (.slice A' n c') n (zo (toI (yp s i))) /\ Below w.heap.size w wr) (fun _ iv _ => 64 - (intOf iv).toNat)
 case atStart => exact ⟨0, 0, _, _, by omega, rfl, rfl, rfl, World.ownsRow_nil _ _ _ _, Below.refl _ _⟩
 case round =>
  obtain ⟨i, n, A', c', hin, rfl, rfl, hn, ho, hb⟩ := hrel
  by_cases hi : i < 64
  ·have hn6 : n <= 64 := by have := Zq s i; omega
   have i0 : (0 : Int) <= (i : Int) := by omega
   have i1 : (i : Int) < 64 := by omega
   have Hn := ihq hn; have Hb := ihq hb; have Hi := ihq (XX (s := s) hi)
   by_cases hv : (s.vs i).bl ≠ 0
   ·have hs := volsN_yes hv
    have KV := ihq (Zj g s i wr (H.out.below hb) (by rw [Hi.out, decide_eq_true hv]))
    obtain ⟨Wb, hWb⟩ : ∃ Wb, wr.alloc (.cells #[.int .i64 (i : Int)] 3) = Wb := ⟨_, rfl⟩
    have hbb : Below wr.heap.size wr Wb := by rw [<- hWb]; exact zg _ _
    have hsb : Seen Wb (some ⟨wr.heap.size, 0, none⟩) [.int .i64 (i : Int)] := by rw [<- hWb]; exact Seen.of_cells (heap_alloc_new wr _)
    have Ho := ihq (ZP ho hbb); have Hb2 := ihq (hb.trans (hbb.mono hb.size)); have Hsb := ihq hsb; have Hs := ihq hs
    clear ho hb hbb hsb hs hn hv
    go_wp2_with (first
     | (go_at_call 38; refine KV.out.mono ?_; rintro e w2 ⟨rfl, rfl⟩)
     | (at_builtin; refine ym rfl (.tmp 17) (.tmp 19) _ rfl 3 _ 8 Tryz.underlying28 zP rfl w.heap.size A' n c' (zo (toI (yp s i))) rfl Ho.out _ 1 1 [.int .i64 (i : Int)] rfl rfl Hsb.out (by simp [Value.oneCell']) (by unfold maxLen; omega) (by omega) Hb2.out.size ?_; intro A4 c4 w4 hown4 hg4 hbk4; have Hown4 := ihq hown4; have Hg4 := ihq hg4; clear hown4 hg4 hbk4))
    go_roundw
    case rel =>
     have tg : Turned (fun k => (Value.slice A' n c').ownBlock = some k) Wb w4 := Turned.of_grown Hg4.out fun k e => e
     refine ⟨i + 1, n + 1, A4, c4, by omega, by go_num, rfl, by rw [Hs.out, List.length_append, Hn.out]; rfl, ?_, ?_⟩
     ·rw [Hs.out, XO, zW]
      exact Hown4.out
     ·exact Hb2.out.trans (tg.below (fun k e => (Ho.out.lt k e).1) Hb2.out.size)
    case measure => simp [intOf]; omega
   ·have hv0 : (s.vs i).bl = 0 := by omega
    have hs := volsN_no hv0
    have KV := ihq (ZZ g s (i : Int) wr (H.out.below hb) (by rw [Hi.out, decide_eq_false hv]))
    have Ho := ihq ho; have Hs := ihq hs
    clear ho hb hs hn hv hv0
    go_wp2_with (go_at_call 38; refine KV.out.mono ?_; rintro e w2 ⟨rfl, rfl⟩)
    go_roundw
    case rel => exact ⟨i + 1, n, A', c', by omega, by go_num, rfl, by rw [Hs.out, Hn.out], by rw [Hs.out]; exact Ho.out, Hb.out⟩
    case measure => simp [intOf]; omega
  ·obtain rfl : i = 64 := by omega
   have i1 : ¬ ((64 : Nat) : Int) < 64 := by omega
   have Ho := ihq ho; have Hb := ihq hb; have Hn := ihq hn
   clear ho hb hn
   go_wp2
   go_ret
   unfold Zp
   rw [Hn.out]
   exact ⟨A', c', rfl, Ho.out, Hb.out⟩
theorem rel_vlen {s : St} {r : RS} (h : Rel s r) : (yp s 64).length = r.vs.length := by rw [h.vols, List.length_map]; rfl
theorem rel_vget {s : St} {r : RS} (h : Rel s r) {i : Nat} {v : RV} (hv : r.vs[i]? = some v) : ∃ x, (yp s 64)[i]? = some x /\ x < 64 /\ (s.vs x).bl ≠ 0 /\ v = rvOf s x := by
 rw [h.vols] at hv
 rw [List.getElem?_map, Option.map_eq_some_iff] at hv
 obtain ⟨x, hx, rfl⟩ := hv
 obtain ⟨h1, h2⟩ := xW (List.mem_of_getElem? (l := yp s 64) hx)
 exact ⟨x, hx, h1, h2, rfl⟩
theorem rel_perm {n : Int} {s : St} {r : RS} (h : Rel s r) (hg : yy n s) : (zX s 64).Perm r.cs := by
 have hpre : PreF s := ⟨fun i hi k hk => ((hg.vs i hi).ks k hk).vo, fun i hi k hk => ((hg.vs i hi).ks k hk).id.2, fun i hi k hk => ((hg.vs i hi).ks k hk).nd, fun i hi => hg.ord.rise i hi, fun a b ha hb k hk k' hk' e => hg.ord.one a b ha hb k hk k' hk' e⟩
 exact (List.perm_ext_iff_of_nodup hpre.all (List.Pairwise.imp (R := fun a b : Chk => a.id < b.id) (fun {a b} hab e => by subst e; omega) h.cr)).2 fun k => by
  rw [h.cm]
  unfold zX
  rw [List.mem_flatMap]
  constructor
  ·rintro ⟨i, hi, hk⟩; exact ⟨i, List.mem_range.1 hi, hk⟩
  ·rintro ⟨i, hi, hk⟩; exact ⟨i, List.mem_range.2 hi, hk⟩
theorem rel_ids {n : Int} {s : St} {r : RS} (h : Rel s r) (hg : yy n s) : yZ (idsK (zX s 64)) = idsK r.cs := by
 have hp : (idsK (zX s 64)).Perm (idsK r.cs) := (rel_perm h hg).map _
 have h1 : (yZ (idsK (zX s 64))).Pairwise fun a b => a <= b := by
  have := List.pairwise_mergeSort (le := fun x y : Int => decide (x <= y)) (fun a b c h1 h2 => by simp at *; omega) (fun a b => by simp; omega) (idsK (zX s 64))
  exact this.imp fun {a b} e => by simpa using e
 have h2 : (idsK r.cs).Pairwise fun a b => a <= b := by
  unfold idsK
  rw [List.pairwise_map]
  exact List.Pairwise.imp (R := fun a b : Chk => a.id < b.id) (fun {a b} e => by omega) h.cr
 exact List.Perm.eq_of_pairwise (le := fun a b => a <= b) (fun a b _ _ x y => by omega) h1 h2 ((List.mergeSort_perm _ _).trans hp)
theorem rel_find {n : Int} {s : St} {r : RS} (h : Rel s r) (hg : yy n s) {k : Chk} (hk : k ∈ r.cs) : ∃ i j, xL s k.id = some (i, j, k) := by
 obtain ⟨i, hi, hm⟩ := (h.cm k).1 hk
 obtain ⟨j, hj⟩ := List.mem_iff_getElem?.1 hm
 exact ⟨i, j, hg.ord.find ⟨hi, hj, rfl⟩⟩
def cntP (pk : Nat -> Int) (n : Nat) : Nat := ((List.range n).filter fun i => decide (0 < pk i)).length
theorem cntP_yes {pk : Nat -> Int} {n : Nat} (h : 0 < pk n) : cntP pk (n + 1) = cntP pk n + 1 := by simp [cntP, List.range_succ, h]
theorem cntP_no {pk : Nat -> Int} {n : Nat} (h : ¬ 0 < pk n) : cntP pk (n + 1) = cntP pk n := by
 have : decide (0 < pk n) = false := decide_eq_false h
 simp [cntP, List.range_succ, this]
theorem cntP_le (pk : Nat -> Int) (n : Nat) : cntP pk n <= n := by
 have := List.length_filter_le (fun i => decide (0 < pk i)) (List.range n)
 simpa [cntP] using this
theorem XJ {pk : Nat -> Int} {x : Nat} (h : x ∈ zm pk) : x < 16 /\ 0 < pk x := by
 unfold zm at h
 have := List.mem_filter.1 h
 exact ⟨List.mem_range.1 this.1, by simpa using this.2⟩
theorem srv_rise (pk : Nat -> Int) {i j : Nat} {x y : Nat} (hij : i < j) (hx : (zm pk)[i]? = some x) (hy : (zm pk)[j]? = some y) : x < y := by
 have hp : (zm pk).Pairwise fun a b => a < b := List.Pairwise.filter _ List.pairwise_lt_range
 obtain ⟨h1, rfl⟩ := List.getElem?_eq_some_iff.1 hx
 obtain ⟨h2, rfl⟩ := List.getElem?_eq_some_iff.1 hy
 exact List.pairwise_iff_getElem.1 hp i j h1 h2 hij
end Go.Proofs.YteebkolccbcehaaGreat
end
