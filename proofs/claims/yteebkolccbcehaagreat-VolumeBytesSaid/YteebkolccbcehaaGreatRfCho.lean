/-
  Contract of dotterelref18's Choose. Conditions: a state that can be read; no more servers than there are.
-/
import Derived.Test.YteebkolccbcehaaGreatJQ
set_option linter.all false
namespace Go.Proofs.YteebkolccbcehaaGreat
open Go.ChangeShapes Go.WideShapes Go.ChangeAt Go.RowKit
def hN (r : RS) (i : Nat) : Nat := (r.cs.filter (hasK (i : Int))).length
def srtR (r : RS) : List Nat := (zm r.pk).mergeSort (yL (hN r))
theorem fewer_tr (f : Nat -> Nat) (a b c : Nat) : yL f a b = true -> yL f b c = true -> yL f a c = true := by
 simp only [yL, Bool.or_eq_true, Bool.and_eq_true, decide_eq_true_eq]
 omega
theorem fewer_tot (f : Nat -> Nat) (a b : Nat) : (yL f a b || yL f b a) = true := by
 simp only [yL, Bool.or_eq_true, Bool.and_eq_true, decide_eq_true_eq]
 omega
theorem fewer_anti {f : Nat -> Nat} {a b : Nat} (h : yL f a b = true) (k : yL f b a = true) : a = b := by
 simp only [yL, Bool.or_eq_true, Bool.and_eq_true, decide_eq_true_eq] at h k
 omega
theorem srtR_pw (r : RS) : (srtR r).Pairwise fun a b => yL (hN r) a b = true := List.pairwise_mergeSort (fewer_tr _) (fewer_tot _) _
theorem srtR_mem (r : RS) (x : Nat) : x ∈ srtR r ↔ x < 16 /\ 0 < r.pk x := by
 unfold srtR zm
 rw [List.mem_mergeSort, List.mem_filter, List.mem_range]
 simp
theorem srtR_nd (r : RS) : (srtR r).Nodup := (List.mergeSort_perm _ _).nodup_iff.2 (List.Nodup.sublist List.filter_sublist List.nodup_range)
theorem srtR_len (r : RS) : (srtR r).length = (zm r.pk).length := List.length_mergeSort _
def remR (r : RS) (m j : Nat) : Prop := 0 < r.pk j /\ ¬ j ∈ (srtR r).take m
def xU (r : RS) (m i : Nat) (b l : Int) : Prop :=
 (b = -1 /\ ∀ j, j < i -> ¬ remR r m j) \/ (∃ a : Nat, b = (a : Int) /\ a < i /\ remR r m a /\ l = (hN r a : Int) /\ ∀ j, j < i -> remR r m j -> yL (hN r) a j = true)
theorem xU.none_ (r : RS) (m : Nat) (l : Int) : xU r m 0 (-1) l := .inl ⟨rfl, fun j h => by omega⟩
theorem xU.skip {r : RS} {m i : Nat} {b l : Int} (h : xU r m i b l) (hn : ¬ remR r m i) : xU r m (i + 1) b l := by
 rcases h with ⟨h1, h2⟩ | ⟨a, h1, h2, h3, h4, h5⟩
 ·refine .inl ⟨h1, fun j hj => ?_⟩
  rcases (by omega : j < i \/ j = i) with h | rfl
  ·exact h2 j h
  ·exact hn
 ·refine .inr ⟨a, h1, by omega, h3, h4, fun j hj hr => ?_⟩
  rcases (by omega : j < i \/ j = i) with h | rfl
  ·exact h5 j h hr
  ·exact absurd hr hn
theorem xU.first {r : RS} {m i : Nat} {l : Int} (h2 : ∀ j, j < i -> ¬ remR r m j) (hr : remR r m i) (hl : l = (hN r i : Int)) : xU r m (i + 1) (i : Int) l :=
 .inr ⟨i, rfl, by omega, hr, hl, fun j hj hj2 => by
  rcases (by omega : j < i \/ j = i) with h | rfl
  ·exact absurd hj2 (h2 j h)
  ·simp [yL]⟩
theorem xU.better {r : RS} {m i a : Nat} {l : Int} (h5 : ∀ j, j < i -> remR r m j -> yL (hN r) a j = true) (hr : remR r m i) (hl : l = (hN r i : Int)) (hlt : hN r i < hN r a) : xU r m (i + 1) (i : Int) l :=
 .inr ⟨i, rfl, by omega, hr, hl, fun j hj hj2 => by
  rcases (by omega : j < i \/ j = i) with h | rfl
  ·refine fewer_tr _ _ _ _ ?_ (h5 j h hj2)
   simp [yL, hlt]
  ·simp [yL]⟩
theorem xU.keep {r : RS} {m i a : Nat} {l : Int} (ha : a < i) (h3 : remR r m a) (h4 : l = (hN r a : Int)) (h5 : ∀ j, j < i -> remR r m j -> yL (hN r) a j = true) (hge : ¬ hN r i < hN r a) : xU r m (i + 1) (a : Int) l :=
 .inr ⟨a, rfl, by omega, h3, h4, fun j hj hj2 => by
  rcases (by omega : j < i \/ j = i) with h | rfl
  ·exact h5 j h hj2
  ·simp only [yL, Bool.or_eq_true, Bool.and_eq_true, decide_eq_true_eq]; omega⟩
theorem remR_drop {r : RS} {m j : Nat} (hj : j < 16) (h : remR r m j) : j ∈ (srtR r).drop m := by
 have h1 : j ∈ srtR r := (srtR_mem r j).2 ⟨hj, h.1⟩
 rw [<- List.take_append_drop m (srtR r)] at h1
 rcases List.mem_append.1 h1 with h1 | h1
 ·exact absurd h1 h.2
 ·exact h1
theorem xU.done {r : RS} {m : Nat} {b l : Int} (h : xU r m 16 b l) (hm : m < (srtR r).length) : ∃ a : Nat, b = (a : Int) /\ a < 16 /\ (srtR r)[m]? = some a := by
 obtain ⟨c, hc⟩ : ∃ c, (srtR r)[m]? = some c := ⟨_, List.getElem?_eq_getElem hm⟩
 have hcs : srtR r = (srtR r).take m ++ c :: (srtR r).drop (m + 1) := by
  obtain ⟨h1, h2⟩ := List.getElem?_eq_some_iff.1 hc
  conv => lhs; rw [<- List.take_append_drop m (srtR r), List.drop_eq_getElem_cons h1, h2]
 have hc2 := (srtR_mem r c).1 (List.mem_of_getElem? hc)
 have hcr : remR r m c := ⟨hc2.2, fun h => by
  have := srtR_nd r
  rw [hcs] at this
  exact (List.nodup_append.1 this).2.2 c h c (by simp) rfl⟩
 rcases h with ⟨_, h2⟩ | ⟨a, h1, h2, h3, h4, h5⟩
 ·exact absurd hcr (h2 c hc2.1)
 ·refine ⟨a, h1, h2, ?_⟩
  have k1 := h5 c hc2.1 hcr
  have hd := remR_drop h2 h3
  have hpw := srtR_pw r
  rw [hcs] at hpw
  have h6 := (List.pairwise_cons.1 (List.pairwise_append.1 hpw).2.1).1
  obtain ⟨e1, e2⟩ := List.getElem?_eq_some_iff.1 hc
  rw [List.drop_eq_getElem_cons e1, e2] at hd
  rcases List.mem_cons.1 hd with rfl | hd
  ·exact hc
  ·rw [hc, fewer_anti k1 (h6 a hd)]
theorem hN_yes {r : RS} {k : Nat} {x : Chk} (id : Nat) (hx : r.cs[k]? = some x) (h : hasK (id : Int) x = true) : ((r.cs.take (k + 1)).filter (hasK (id : Int))).length = ((r.cs.take k).filter (hasK (id : Int))).length + 1 := by rw [YI hx h, List.length_append]; rfl
theorem hN_no {r : RS} {k : Nat} {x : Chk} (id : Nat) (hx : r.cs[k]? = some x) (h : hasK (id : Int) x = false) : ((r.cs.take (k + 1)).filter (hasK (id : Int))).length = ((r.cs.take k).filter (hasK (id : Int))).length := by rw [Xm hx h]
def lenVR : Value -> Nat
 | .slice _ n _ => n
 | _ => 0
theorem toI_mem (l : List Nat) (i : Nat) : ((i : Int) ∈ toI l) ↔ i ∈ l := by
 unfold toI
 simp only [List.mem_map]
 constructor
 ·rintro ⟨x, hx, e⟩
  have : x = i := by omega
  rwa [<- this]
 ·intro h
  exact ⟨i, h, rfl⟩
attribute [local go_sem ↓] yd
set_option maxRecDepth 100000 in
set_option maxHeartbeats 4000000 in
theorem RChoose (f : Rf) (copies : Nat) (w : World) (h : RfOk w f) (hcp : copies <= (zm f.pk).length) :
  Calls Tryz.prog 89 #[f.val, .int .i64 (copies : Int)] w (Zp 3 1 copies (zo (toI (fewF (hN f.dat) (zm f.pk) copies))) w) := by
 unfold Rf.val
 obtain ⟨w1, hw1, hb1, hr⟩ := yb w f
 have Hpn := ihq h.pn
 have H := ihq (h.below hb1); have Hb := ihq hb1; have Hr := ihq hr
 have hlt0 : w.heap.size < w1.heap.size := (Array.getElem?_eq_some_iff.1 hr).1
 have hm : f.dat.cs.length = f.k.n := (List.length_map ..).trans h.k.len
 have hl2 : f.dat.cs.length <= 10000 := (show f.dat.cs.length = f.K.length from List.length_map ..) ▸ h.kl
 obtain ⟨nk, em⟩ : ∃ m, f.k.n = m := ⟨_, rfl⟩
 rw [em] at hm hw1 hr
 rw [em]
 have hl2' : nk <= 10000 := by omega
 have Hm := ihq hm
 have C0 := ihq (zc hr 0); have C2 := ihq (zc hr 2)
 have hsv : (zm f.pk).length <= 16 := xM f.pk 16
 have hcp' : copies <= 16 := by omega
 have hsl := srtR_len f.dat
 rw [show f.dat.pk = f.pk from rfl] at hsl
 have Hcp := ihq (show copies <= (srtR f.dat).length by omega)
 have hfw : fewF (hN f.dat) (zm f.pk) copies = (srtR f.dat).take copies := rfl
 rw [hfw]
 clear h hb1 hr hm hl2 em hsv hcp hsl hfw Hr
 go_enter Tryz.func89, Tryz.ntmps89
 go_wp2
 go_loopw [5] (fun sv wr => ∃ (m : Nat) (A' : Option Addr) (c' : Nat), m <= copies /\ sv = .slice A' m c' /\ wr.ownsRow w1.heap.size 3 1 (.slice A' m c') m (zo (toI ((srtR f.dat).take m))) /\ Below w1.heap.size w1 wr) (fun sv _ => copies - lenVR sv)
 case atStart => exact ⟨0, none, 0, Nat.zero_le _, rfl, World.ownsRow_nil _ _ _ _, Below.refl _ _⟩
 case round =>
  obtain ⟨wo, rfl⟩ : ∃ wo, wo = wr := ⟨_, rfl⟩
  obtain ⟨m, A', c', hmc, rfl, ho, hb⟩ := hrel
  have Ho := ihq ho; have Hbo := ihq hb
  clear ho hb
  by_cases hgo : m < copies
  ·have g3 : (m : Int) < (copies : Int) := by omega
   go_wp2
   go_loopw [6, 7, 8] (fun bv lv iv wi => ∃ i : Nat, i <= 16 /\ iv = .int .i64 (i : Int) /\ (∃ b l : Int, bv = .int .i64 b /\ lv = .int .i64 l /\ xU f.dat m i b l) /\ Below wo.heap.size wo wi) (fun _ _ iv _ => 16 - (intOf iv).toNat)
   case atStart => exact ⟨0, Nat.zero_le _, rfl, ⟨-1, 0, rfl, rfl, xU.none_ _ _ _⟩, Below.refl _ _⟩
   case round =>
    obtain ⟨wj, rfl⟩ : ∃ wj, wj = wr := ⟨_, rfl⟩
    obtain ⟨i, hin, rfl, ⟨b, l, rfl, rfl, hbest⟩, hbi⟩ := hrel
    have Hbest := ihq hbest; have Hbi := ihq hbi
    have hb2 := Hbo.out.trans (hbi.mono Hbo.out.size)
    have Hb2 := ihq hb2
    clear hbest hbi
    by_cases hi : i < 16
    ·have c0 : wj.cell? ⟨w.heap.size, 0, none⟩ = some (.slice f.p.A f.p.n f.p.c) := by rw [hb2.cell hlt0]; exact C0.out
     obtain ⟨gp, op, hA, d0⟩ := (H.out.below hb2).pick hi
     obtain ⟨x, hx⟩ : ∃ x, f.pk i = x := ⟨_, rfl⟩
     rw [hx] at d0
     rw [hA] at c0
     have hxin := H.out.pin i hi
     rw [hx] at hxin
     have j0 : (0 : Int) <= (i : Int) := by omega
     have j1 : (i : Int) < 16 := by omega
     have j2 : (i : Int) < (f.p.n : Int) := by have := Hpn.out; omega
     have Hx := ihq (show f.dat.pk i = x from hx)
     have hint : zQ wj ⟨A', m, c'⟩ (toI ((srtR f.dat).take m)) := zQ.own (zh Ho.out Hbi.out)
     have KH := ihq (hint.has (i : Int))
     obtain ⟨t, hte⟩ : ∃ t, decide ((i : Int) ∈ toI ((srtR f.dat).take m)) = t := ⟨_, rfl⟩
     rw [hte] at KH
     have Hte := ihq hte
     clear hb2 hA hx hint hte
     by_cases hx0 : x = 0
     ·have hq : (x == 0) = true := by simpa using hx0
      have Hx0 := ihq hx0
      clear hx0 KH
      go_wp2
      go_roundw
      case rel => exact ⟨i + 1, by omega, by go_num, ⟨b, l, rfl, rfl, Hbest.out.skip fun h => by have := h.1; rw [Hx.out, Hx0.out] at this; omega⟩, Hbi.out⟩
      case measure => simp [intOf]; omega
     ·have hq : (x == 0) = false := by simpa using hx0
      have Hx0 := ihq hx0
      clear hx0
      cases t with
      | true =>
       go_wp2_with (go_at_call 90; refine KH.out.mono ?_; rintro e w' ⟨rfl, e2⟩; have e3 := e2.symm; subst e3; clear e2)
       go_roundw
       case rel => exact ⟨i + 1, by omega, by go_num, ⟨b, l, rfl, rfl, Hbest.out.skip fun h => h.2 ((toI_mem _ _).1 (of_decide_eq_true Hte.out))⟩, Hbi.out⟩
       case measure => simp [intOf]; omega
      | false =>
       have Hrem := ihq (show remR f.dat m i from ⟨by rw [Hx.out]; have := Hx0.out; omega, fun h => of_decide_eq_false Hte.out ((toI_mem _ _).2 h)⟩)
       go_wp2_with (go_at_call 90; refine KH.out.mono ?_; rintro e w' ⟨rfl, e2⟩; have e3 := e2.symm; subst e3; clear e2)
       go_loopw [9, 10] (fun nv kv wi => ∃ k : Nat, k <= nk /\ kv = .int .i64 (k : Int) /\ nv = .int .i64 (((f.dat.cs.take k).filter (hasK (i : Int))).length : Nat) /\ Below wj.heap.size wj wi) (fun _ kv _ => nk - (intOf kv).toNat)
       case atStart => exact ⟨0, Nat.zero_le _, rfl, rfl, Below.refl _ _⟩
       case round =>
        obtain ⟨k, hkn, rfl, rfl, hbk⟩ := hrel
        obtain ⟨q, hqe⟩ : ∃ q, ((f.dat.cs.take k).filter (hasK (i : Int))).length = q := ⟨_, rfl⟩
        have hqk : q <= k := by have := Xn (hasK (i : Int)) f.dat.cs k; omega
        rw [hqe]
        have Hq := ihq hqe; have Hbk := ihq hbk
        have hb3 := Hb2.out.trans (hbk.mono Hb2.out.size)
        have c2 : wr.cell? ⟨w.heap.size, 2, none⟩ = some (.slice f.k.A nk f.k.c) := by rw [hb3.cell hlt0]; exact C2.out
        by_cases hk : k < nk
        ·obtain ⟨y, hy⟩ : ∃ y, f.K[k]? = some y := ⟨_, List.getElem?_eq_getElem (by have := Hm.out; have e : f.dat.cs.length = f.K.length := List.length_map ..; omega)⟩
         have hyd : f.dat.cs[k]? = some y.dat := by show (f.K.map Ck.dat)[k]? = _; rw [List.getElem?_map, hy]; rfl
         obtain ⟨gk, ok, hAk, hck⟩ := (H.out.below hb3).k.get hy
         have KR := ihq (RHas y (i : Int) wr ((H.out.below hb3).k.ok y (List.mem_of_getElem? hy)))
         unfold ckA at KR
         rw [hAk] at c2
         have hld := zC hck
         have k0 : (0 : Int) <= (k : Int) := by omega
         have k1 : (k : Int) < (nk : Int) := by omega
         have Hyd := ihq hyd
         obtain ⟨u, hue⟩ : ∃ u, hasK (i : Int) y.dat = u := ⟨_, rfl⟩
         rw [hue] at KR
         have Hue := ihq hue
         clear hyd hy hAk hck hqe hbk hb3 hue
         cases u with
         | true =>
          go_wp2_with (go_at_call 73; refine KR.out.mono ?_; rintro e w9 ⟨rfl, hb9⟩; have Hb9 := ihq hb9; clear hb9)
          go_roundw
          case rel => exact ⟨k + 1, by omega, by go_num, by rw [hN_yes i Hyd.out Hue.out, Hq.out]; go_num, Hbk.out.trans (Hb9.out.mono Hbk.out.size)⟩
          case measure => simp [intOf]; omega
         | false =>
          go_wp2_with (go_at_call 73; refine KR.out.mono ?_; rintro e w9 ⟨rfl, hb9⟩; have Hb9 := ihq hb9; clear hb9)
          go_roundw
          case rel => exact ⟨k + 1, by omega, by go_num, by rw [hN_no i Hyd.out Hue.out, Hq.out], Hbk.out.trans (Hb9.out.mono Hbk.out.size)⟩
          case measure => simp [intOf]; omega
        ·obtain rfl : k = nk := by omega
         have k1 : ¬ (k : Int) < (k : Int) := by omega
         have hqn : hN f.dat i = q := by
          rw [<- hqe]
          unfold hN
          rw [List.take_of_length_le (by rw [Hm.out]; exact Nat.le_refl _)]
         have Hqn := ihq hqn
         have Hbb := ihq (Hbi.out.trans (hbk.mono Hbi.out.size))
         clear hqe hbk hb3 hqn
         rcases Hbest.out with ⟨rfl, h2⟩ | ⟨a, rfl, ha, h3, rfl, h5⟩
         ·have H2 := ihq h2
          clear h2
          go_wp2
          go_roundw
          case rel => exact ⟨i + 1, by omega, by go_num, ⟨(i : Int), (q : Int), rfl, rfl, xU.first H2.out Hrem.out (by rw [Hqn.out])⟩, Hbb.out⟩
          case measure => simp [intOf]; omega
         ·have a0 : ¬ (a : Int) < 0 := by omega
          have H3 := ihq h3; have H5 := ihq h5
          clear h3 h5
          obtain ⟨p, hpe⟩ : ∃ p, hN f.dat a = p := ⟨_, rfl⟩
          rw [hpe]
          have Hpe := ihq hpe
          clear hpe
          by_cases hlt : (q : Int) < (p : Int)
          ·have Hlt := ihq hlt
           go_wp2
           go_roundw
           case rel => exact ⟨i + 1, by omega, by go_num, ⟨(i : Int), (q : Int), rfl, rfl, xU.better H5.out Hrem.out (by rw [Hqn.out]) (by rw [Hqn.out, Hpe.out]; have := Hlt.out; omega)⟩, Hbb.out⟩
           case measure => simp [intOf]; omega
          ·have Hlt := ihq hlt
           go_wp2
           go_roundw
           case rel => exact ⟨i + 1, by omega, by go_num, ⟨(a : Int), (p : Int), rfl, rfl, xU.keep ha H3.out (by rw [Hpe.out]) H5.out (by rw [Hqn.out, Hpe.out]; have := Hlt.out; omega)⟩, Hbb.out⟩
           case measure => simp [intOf]; omega
    ·obtain rfl : i = 16 := by omega
     obtain ⟨a, rfl, ha, hga⟩ := Hbest.out.done (by have := Hcp.out; omega)
     have Hga := ihq hga
     have htl : ((srtR f.dat).take m).length = m := by rw [List.length_take]; have := Hcp.out; omega
     obtain ⟨Wb, hWb⟩ : ∃ Wb, wj.alloc (.cells #[.int .i64 (a : Int)] 3) = Wb := ⟨_, rfl⟩
     have hbb : Below wj.heap.size wj Wb := by rw [<- hWb]; exact zg _ _
     have hsb : Seen Wb (some ⟨wj.heap.size, 0, none⟩) [.int .i64 (a : Int)] := by rw [<- hWb]; exact Seen.of_cells (heap_alloc_new wj _)
     have Ho2 := ihq (zh (zh Ho.out Hbi.out) hbb); have Hb3 := ihq (hb2.trans (hbb.mono hb2.size)); have Hsb := ihq hsb
     clear hga hb2 hbb hsb
     go_wp2_with (at_builtin; refine ym rfl (.tmp 55) (.tmp 57) _ rfl 3 _ 8 Tryz.underlying28 zP rfl w1.heap.size A' m c' (zo (toI ((srtR f.dat).take m))) rfl Ho2.out (some ⟨wj.heap.size, 0, none⟩) 1 1 [.int .i64 (a : Int)] rfl rfl Hsb.out (fun u hu => by simp at hu; subst hu; rfl) (by unfold maxLen; omega) (by omega) Hb3.out.size ?_; intro A4 c4 w4 hown4 hg4 hbk4; have Hown4 := ihq hown4; have Hg4 := ihq hg4; clear hown4 hg4 hbk4)
     go_roundw
     case rel =>
      have tg : Turned (fun k => (Value.slice A' m c').ownBlock = some k) Wb w4 := Turned.of_grown Hg4.out fun k e => e
      refine ⟨m + 1, A4, c4, by omega, rfl, ?_, Hb3.out.trans (tg.below (fun k e => (Ho2.out.lt k e).1) Hb3.out.size)⟩
      rw [xX Hga.out, toI, List.map_append, zW]
      exact Hown4.out
     case measure => simp [lenVR]; omega
  ·obtain rfl : m = copies := by omega
   have g3 : ¬ (m : Int) < (m : Int) := by omega
   go_wp2
   go_ret
   exact ⟨A', c', rfl, zY Ho.out Hb.out.size, Hb.out.trans (Hbo.out.mono Hb.out.size)⟩
end Go.Proofs.YteebkolccbcehaaGreat
