/-
  VolumeBytes: a state comes back out of its bytes, and goes on likewise; other bytes are refused, or are just those of a state; for every input. No condition but what the row says.
-/
import Derived.Test.YteebkolccbcehaaGreatVbl
import Derived.Test.YteebkolccbcehaaGreatKD
import Derived.Test.YteebkolccbcehaaGreatRows
import Derived.Test.YteebkolccbcehaaGreatChecked
import Derived.Deep.DeepCutAuto
import Derived.Deep.CutRange
import Derived.StillTailTactics
set_option linter.all false
namespace Go.Proofs.YteebkolccbcehaaGreat.VolumeBytes
open Go.ChangeShapes Go.WideShapes Go.ChangeAt Go.RowKit Go.Proofs.YteebkolccbcehaaGreat
attribute [local go_sem ↓] yK yX y9
set_option maxRecDepth 100000 in
set_option maxHeartbeats 8000000 in
theorem short (A A' B : Option Addr) (n cp n' cp' k ck : Nat) (l l' : List Cmd) (w : World) (hn : l.length = n) (hm : n <= maxLen) (hs : Ze w A l) (hn' : l'.length = n') (hm' : n' <= maxLen) (hs' : Ze w A' l') (hg : yU l = true \/ yU l' = true \/ 200 < k) :
  Calls Tryz.prog 3 #[.slice A n cp, .slice A' n' cp', .slice B k ck] w fun e w' => e = .returned (.bool true) /\ Below w.heap.size w w' := by
 have KG := ihq (Vgreat A n cp l w hn hm hs)
 have KG2 := ihq (Vgreat A' n' cp' l' w hn' hm' hs')
 cases h1 : yU l with
 | true =>
  rw [h1] at KG
  clear hn hs hn' hs' h1 hg KG2
  go_enter Tryz.func3, Tryz.ntmps3
  go_wp2_with (first | (go_at_call 5; refine (Qn _).mono ?_; rintro e w9 ⟨rfl, hb9⟩; have Hb9 := ihq hb9; clear hb9) | (go_at_call 4; (with_reducible refine KG.out.mono ?_); rintro e w0 ⟨rfl, rfl⟩))
  go_ret
  exact ⟨rfl, Hb9.out⟩
 | false =>
  rw [h1] at KG
  cases h2 : yU l' with
  | true =>
   rw [h2] at KG2
   clear hn hs hn' hs' h1 h2 hg
   go_enter Tryz.func3, Tryz.ntmps3
   go_wp2_with (first | (go_at_call 5; refine (Qn _).mono ?_; rintro e w9 ⟨rfl, hb9⟩; have Hb9 := ihq hb9; clear hb9) | (go_at_call 4; (with_reducible refine KG.out.mono ?_); rintro e w0 ⟨rfl, rfl⟩) | (go_at_call 4; (with_reducible refine KG2.out.mono ?_); rintro e w0 ⟨rfl, rfl⟩))
   go_ret
   exact ⟨rfl, Hb9.out⟩
  | false =>
   rw [h2] at KG2
   have hk : (200 : Int) < (k : Int) := by rcases hg with h | h | h; exact absurd (h1.symm.trans h) (by decide); exact absurd (h2.symm.trans h) (by decide); omega
   clear hn hs hn' hs' h1 h2 hg
   go_enter Tryz.func3, Tryz.ntmps3
   go_wp2_with (first | (go_at_call 5; refine (Qn _).mono ?_; rintro e w9 ⟨rfl, hb9⟩; have Hb9 := ihq hb9; clear hb9) | (go_at_call 4; (with_reducible refine KG.out.mono ?_); rintro e w0 ⟨rfl, rfl⟩) | (go_at_call 4; (with_reducible refine KG2.out.mono ?_); rintro e w0 ⟨rfl, rfl⟩))
   go_ret
   exact ⟨rfl, Hb9.out⟩
set_option maxRecDepth 100000 in
set_option maxHeartbeats 16000000 in
theorem long (A A' B : Option Addr) (n cp m cp' k ck : Nat) (l l' : List Cmd) (b : List UInt8) (w : World) (hn : l.length = n) (hm : n <= maxLen) (hs : Ze w A l) (hn' : l'.length = m) (hm' : m <= maxLen) (hs' : Ze w A' l') (hk : b.length = k) (hb : Seen w B (zT b)) (h1 : yU l = false) (h2 : yU l' = false) (h3 : k <= 200) :
  Calls Tryz.prog 3 #[.slice A n cp, .slice A' m cp', .slice B k ck] w fun e w' => e = .returned (.bool true) /\ Below w.heap.size w w' := by
 have KG := Vgreat A n cp l w hn hm hs
 have KG2 := Vgreat A' m cp' l' w hn' hm' hs'
 rw [h1] at KG
 rw [h2] at KG2
 have KG := ihq KG; have KG2 := ihq KG2
 have n30 : n <= 30 := by have := QQ h1; omega
 have m30 : m <= 30 := by have := QQ h2; omega
 have hk2 : ¬ (200 : Int) < (k : Int) := by omega
 have KN := ihq (VNew w)
 have Hs := ihq hs; have Hn := ihq hn; have Hs' := ihq hs'; have Hn' := ihq hn'; have Hk := ihq hk; have HB := ihq hb
 clear hs hn hs' hn' hk hb h1 h2 hm hm'
 go_enter Tryz.func3, Tryz.ntmps3
 go_wp2_with (first
  | (go_at_call 7; refine (RNew _).mono ?_; rintro e w2 ⟨P, rfl, hok2, hb2⟩; have Hok2 := ihq hok2; have Hb2 := ihq (Hb1.out.trans (hb2.mono Hb1.out.size)); have Hs2 := ihq (Hs1.out.below hb2); clear hok2 hb2; unfold Rf.val; obtain ⟨wz, w3, hwz, hst3, hb3, hr3⟩ := rf_new w2 (rf0 P); have Hb3 := ihq (Hb2.out.trans (hb3.mono Hb2.out.size)); have Hok3 := ihq (Hok2.out.below hb3); have Hs3 := ihq (Hs2.out.below hb3); have Hr3 := ihq hr3; clear hb3 hr3; obtain ⟨f0, hf0⟩ : ∃ f0, rf0 P = f0 := ⟨_, rfl⟩; have hrel0 := Rel.new0 P; rw [hf0] at hst3 Hok3 Hr3 hrel0 ⊢; have Hrel0 := ihq hrel0; clear hf0 hrel0)
  | (go_at_call 6; refine KN.out.mono ?_; rintro e w1 ⟨rfl, hs1, hb1⟩; have Hs1 := ihq hs1; have Hb1 := ihq hb1; clear hs1 hb1)
  | (go_at_call 4; (with_reducible refine KG.out.mono ?_); rintro e w0 ⟨rfl, rfl⟩) | (go_at_call 4; (with_reducible refine KG2.out.mono ?_); rintro e w0 ⟨rfl, rfl⟩))
 go_wp2
 go_loopw [9] (fun iv wr => ∃ (i : Nat) (s : St) (f : Rf), i <= n /\ iv = .int .i64 (i : Int) /\ xS (i : Int) s /\ Tid s /\ Rel s f.dat /\ StAt wr w.heap.size s /\ RfOk wr f /\ wr.heap[w2.heap.size]? = some (.cells #[.slice f.p.A f.p.n f.p.c, .slice f.v.A f.v.n f.v.c, .slice f.k.A f.k.n f.k.c, .int .i64 f.nx] 32 (0, 0)) /\ Below w.heap.size w wr) (fun iv _ => n - (intOf iv).toNat)
 case atStart => exact ⟨0, st0, f0, Nat.zero_le _, rfl, good0, tid0, Hrel0.out, Hs3.out, Hok3.out, Hr3.out, Hb3.out⟩
 case round =>
  have Hgx := ihq (show w.heap.size <= w2.heap.size from Hb2.out.size)
  clear hwz hst3 Hrel0 Hs3 Hok3 Hr3 Hb3 Hs2 Hok2 Hs1 Hb1 Hb2 KN KG KG2
  obtain ⟨i, s, f, hin, rfl, hgs, htd, hrl, hst, hok, hrx, hb⟩ := hrel
  have Hgs := ihq hgs; have Htd := ihq htd; have Hrl := ihq hrl; have Hst := ihq hst; have Hok := ihq hok; have Hrx := ihq hrx; have Hb := ihq hb
  clear hgs htd hrl hst hok hrx hb
  by_cases hi : i < n
  ·obtain ⟨ga, o, c, rfl, hx, hat⟩ := Hs.out.get (k := i) (by rw [Hn.out]; exact hi)
   have i0 : (0 : Int) <= (i : Int) := by omega
   have i1 : (i : Int) < (n : Int) := by omega
   have Hat0 := ihq hat
   have lc := Ys (hat.below Hb.out)
   have hrf : Yj f.dat := Yj.of Hrl.out Hgs.out.d (by omega)
   obtain ⟨he2, hr2⟩ := Hrl.out.apply Hgs.out i0 hat.2
   obtain ⟨hgs', _⟩ := ZF Hgs.out i0 hat.2
   have htd' := applyS_tid (c := c) Htd.out
   have hrd := Hgs.out.ready i0 (by omega) hat.2
   obtain ⟨er, her⟩ : ∃ e, (yR s c).2 = e := ⟨_, rfl⟩
   rw [her] at he2
   have KA0 := ihq (fun V (hv : RfOk V f) => Qq f c V hv hrf hat.2)
   unfold Rf.val cmdA at KA0
   rw [he2] at KA0
   obtain ⟨s', hs'⟩ : ∃ s', (yR s c).1 = s' := ⟨_, rfl⟩
   rw [hs'] at hr2 hgs' htd'
   have KS := ihq (show Calls Tryz.prog 8 #[.pointer (some ⟨w.heap.size, 0, none⟩), cmdA c] wr fun e V' => e = .returned (.int .i64 er) /\ StAt V' w.heap.size s' /\ Turned (fun k => k = w.heap.size) wr V' from by
    rw [<- her, <- hs']
    exact Qo w.heap.size s c wr Hst.out hrd)
   unfold cmdA at KS
   have Hr2 := ihq hr2; have Htd' := ihq htd'; have Hgs' := ihq (show xS ((i + 1 : Nat) : Int) s' from by rw [Int.natCast_succ]; exact hgs')
   clear hx hrf he2 hr2 hgs' hrd her hs' htd' hat
   go_upto_region 10 with (go_at_call 8; refine KS.out.mono ?_; rintro e wa ⟨rfl, hsa, hta⟩; have hne := Hst.out.neR Hrx.out; have Hra := ihq (hta.heap Hrx.out (fun e => hne e)); have Oka := ihq (Hok.out.turnedV Hst.out hta); have Hba := ihq (Hb.out.trans (hta.below (fun k e => by omega) Hb.out.size)); have Hsa := ihq hsa; clear hsa hta hne)
   have Hata := ihq (Hat0.out.below Hba.out)
   have SS := ihq (fun V (hv : Below wa.heap.size wa V) => (⟨zR (za Hra.out hv), Ys (Hata.out.below hv)⟩ : (ldRf (.pointer (some ⟨w2.heap.size, 0, none⟩))).run Tryz.prog V = .ok (.agg #[.slice f.p.A f.p.n f.p.c, .slice f.v.A f.v.n f.v.c, .slice f.k.A f.k.n f.k.c, .int .i64 f.nx]) V /\ (Ye (.pointer (some ⟨ga, o + i * 8, none⟩))).run Tryz.prog V = .ok (.agg #[.int .i64 c.k, .int .i64 c.a, .int .i64 c.b, .int .i64 c.c, .int .i64 c.p.re, .int .i64 c.p.we, .int .i64 c.p.li, .int .i64 c.p.bu]) V))
   have KA := ihq (fun V (hv : Below wa.heap.size wa V) => KA0.out V (Oka.out.below hv))
   clear KS KA0 lc
   go_cut [10, 11] (fun x1 x2 wx => ∃ (ax : Nat) (f2 : Rf), x1 = .pointer (some ⟨ax, 0, none⟩) /\ x2 = .int .i64 er /\ f2.dat = (ZY f.dat c).1 /\ RfOk wx f2 /\ wx.heap[ax]? = some (.cells #[.slice f2.p.A f2.p.n f2.p.c, .slice f2.v.A f2.v.n f2.v.c, .slice f2.k.A f2.k.n f2.k.c, .int .i64 f2.nx] 32 (0, 0)) /\ Below wa.heap.size wa wx)
   case' first =>
    have HB0 := ihq (Below.refl wa.heap.size wa).drew
    refine zU (S := fun V => (ldRf (.pointer (some ⟨w2.heap.size, 0, none⟩))).run Tryz.prog V = .ok (.agg #[.slice f.p.A f.p.n f.p.c, .slice f.v.A f.v.n f.v.c, .slice f.k.A f.k.n f.k.c, .int .i64 f.nx]) V /\ (Ye (.pointer (some ⟨ga, o + i * 8, none⟩))).run Tryz.prog V = .ok (.agg #[.int .i64 c.k, .int .i64 c.a, .int .i64 c.b, .int .i64 c.c, .int .i64 c.p.re, .int .i64 c.p.we, .int .i64 c.p.li, .int .i64 c.p.bu]) V) 10 (by kernel_rfl) ?_
    have hHeld := SS.out _ HB0.out
    refine zi (i := 0) (v := ?v1) rfl (by kernel_rfl) (fun _ _ _ h => h) (Or.inl ⟨by rfl, ?hy1⟩) hHeld ?rest1
    case hy1 => (intro w' hS; obtain ⟨t1, t2⟩ := hS; (try simp only [iq4, iq5, iq6]); go_simp; try with_reducible rfl)
    try simp only [Act.put, iq1, iq2, iq3, iq4, iq5, iq6]
    refine zi (i := 1) (v := ?v2) rfl (by kernel_rfl) (fun _ _ _ h => h) (Or.inl ⟨by rfl, ?hy2⟩) hHeld ?rest2
    case hy2 => (intro w' hS; obtain ⟨t1, t2⟩ := hS; (try simp only [iq4, iq5, iq6]); go_simp; try with_reducible rfl)
    try simp only [Act.put, iq1, iq2, iq3, iq4, iq5, iq6]
    refine zi (i := 2) (v := ?v3) rfl (by kernel_rfl) (fun _ _ _ h => h) (Or.inl ⟨by rfl, ?hy3⟩) hHeld ?rest3
    case hy3 => (intro w' hS; obtain ⟨t1, t2⟩ := hS; (try simp only [iq4, iq5, iq6]); go_simp; try with_reducible rfl)
    try simp only [Act.put, iq1, iq2, iq3, iq4, iq5, iq6]
    refine zi (i := 3) (v := ?v4) rfl (by kernel_rfl) (fun _ _ _ h => h) (Or.inl ⟨by rfl, ?hy4⟩) hHeld ?rest4
    case hy4 => (intro w' hS; obtain ⟨t1, t2⟩ := hS; (try simp only [iq4, iq5, iq6]); go_simp; try with_reducible rfl)
    try simp only [Act.put, iq1, iq2, iq3, iq4, iq5, iq6]
    refine zi (i := 4) (v := ?v5) rfl (by kernel_rfl) (fun _ _ _ h => h) (Or.inl ⟨by rfl, ?hy5⟩) hHeld ?rest5
    case hy5 => (intro w' hS; obtain ⟨t1, t2⟩ := hS; (try simp only [iq4, iq5, iq6]); go_simp; try with_reducible rfl)
    try simp only [Act.put, iq1, iq2, iq3, iq4, iq5, iq6]
    refine zf (rs := [5, 9]) (by kernel_rfl) (by simp) ?_
    refine zb.cons rfl (fun K hK => ?_) ?_
    ·(try simp only [iq4, iq5, iq6])
     go_simp
     refine (KA.out wa.drew HB0.out).mono ?_
     rintro e U1 ⟨f2, rfl, hd, hok, hb⟩
     have HD := ihq hd
     have OK1 := ihq hok
     have HB1 := ihq (HB0.out.trans (hb.mono HB0.out.size))
     clear hd hok hb
     try unfold Rf.val
     refine hK.out _ _ (fun _ => SS.out _ HB1.out) ?_
     clear hHeld
     have hHeld := SS.out _ HB1.out
     clear hK K
     try simp only [Act.put, iq1, iq2, iq3, iq4, iq5, iq6]
     refine zi (i := 6) (v := ?v6) rfl (by kernel_rfl) (fun _ _ _ h => h) (Or.inl ⟨by rfl, ?hy6⟩) hHeld ?rest6
     case hy6 => (intro w' hS; obtain ⟨t1, t2⟩ := hS; (try simp only [iq4, iq5, iq6]); go_simp; try with_reducible rfl)
     try simp only [Act.put, iq1, iq2, iq3, iq4, iq5, iq6]
     refine zi (i := 7) (v := ?v7) rfl (by kernel_rfl) (fun _ _ _ h => h) (Or.inl ⟨by rfl, ?hy7⟩) hHeld ?rest7
     case hy7 => (intro w' hS; obtain ⟨t1, t2⟩ := hS; (try simp only [iq4, iq5, iq6]); go_simp; try with_reducible rfl)
     try simp only [Act.put, iq1, iq2, iq3, iq4, iq5, iq6]
     refine zf (rs := [8, 9]) (by kernel_rfl) (by simp) ?_
     refine zb.cons rfl (fun K hK => ?_) ?_
     ·(try simp only [iq4, iq5, iq6])
      go_simp
      refine hK.out _ _ (fun _ => hHeld) ?_
      clear hK K
      try simp only [Act.put, iq1, iq2, iq3, iq4, iq5, iq6]
      refine zf (rs := [9]) (by kernel_rfl) (by simp) ?_
      refine zb.cons rfl (fun K hK => ?_) ?_
      ·(try simp only [iq4, iq5, iq6])
       obtain ⟨U2, hU2⟩ : ∃ W, World.alloc U1 (.cells #[.slice none 0 0, .slice none 0 0, .slice none 0 0, .int .i64 0] 32) = W := ⟨_, rfl⟩
       have hbn : Below (World.heap U1).size U1 U2 := by rw [<- hU2]; exact zg _ _
       have G2 := ihq (show U2.heap[(World.heap U1).size]? = some (.cells #[.slice none 0 0, .slice none 0 0, .slice none 0 0, .int .i64 0] 32 (0, 0)) from (by rw [<- hU2]; exact heap_alloc_new _ _))
       have HG := ihq (show wa.heap.size <= (World.heap U1).size from HB1.out.size)
       have HB2 := ihq (HB1.out.trans (hbn.mono HB1.out.size))
       have OK2 := ihq (OK1.out.below hbn)
       go_simp
       try rw [hU2]
       clear hbn
       refine hK.out _ _ (fun _ => SS.out _ HB2.out) ?_
       clear hHeld
       have hHeld := SS.out _ HB2.out
       clear hK K
       try simp only [Act.put, iq1, iq2, iq3, iq4, iq5, iq6]
       refine zf (rs := [10]) (by kernel_rfl) (by simp) ?_
       refine zb.cons rfl (fun K hK => ?_) ?_
       ·(try simp only [iq4, iq5, iq6])
        obtain ⟨X9, hst9, hr9, ht9⟩ := zk G2.out rfl f2.p f2.v f2.k f2.nx
        have OK9 := ihq (OK2.out.turnedSt ⟨_, G2.out⟩ ht9)
        have HB9 := ihq (HB2.out.trans (ht9.below (B := wa.heap.size) (fun b e => by have := HG.out; omega) HB2.out.size))
        have Hr9 := ihq hr9
        clear hr9 ht9
        go_simp
        refine hK.out _ _ (fun h => (by cases h)) ?_
        clear hHeld hK K hst9
        try simp only [Act.put, iq1, iq2, iq3, iq4, iq5, iq6]
        refine zf (rs := [11]) (by kernel_rfl) (by simp) ?_
        refine zb.cons rfl (fun K hK => ?_) zb.nil
        (try simp only [iq4, iq5, iq6])
        go_simp
        refine hK.out _ _ (fun h => (by cases h)) ?_
        clear hK K
        try simp only [Act.put, iq1, iq2, iq3, iq4, iq5, iq6]
        refine zu (by kernel_rfl) ?_ _
        go_wp2
        go_meet
        exact ⟨_, f2, rfl, rfl, HD.out, OK9.out, Hr9.out, HB9.out⟩
       exact zb.nil
      exact zb.nil
     refine zb.cons rfl (fun K hK => ?_) ?_
     ·(try simp only [iq4, iq5, iq6])
      obtain ⟨U2, hU2⟩ : ∃ W, World.alloc U1 (.cells #[.slice none 0 0, .slice none 0 0, .slice none 0 0, .int .i64 0] 32) = W := ⟨_, rfl⟩
      have hbn : Below (World.heap U1).size U1 U2 := by rw [<- hU2]; exact zg _ _
      have G2 := ihq (show U2.heap[(World.heap U1).size]? = some (.cells #[.slice none 0 0, .slice none 0 0, .slice none 0 0, .int .i64 0] 32 (0, 0)) from (by rw [<- hU2]; exact heap_alloc_new _ _))
      have HG := ihq (show wa.heap.size <= (World.heap U1).size from HB1.out.size)
      have HB2 := ihq (HB1.out.trans (hbn.mono HB1.out.size))
      have OK2 := ihq (OK1.out.below hbn)
      go_simp
      try rw [hU2]
      clear hbn
      refine hK.out _ _ (fun _ => SS.out _ HB2.out) ?_
      clear hHeld
      have hHeld := SS.out _ HB2.out
      clear hK K
      try simp only [Act.put, iq1, iq2, iq3, iq4, iq5, iq6]
      refine zf (rs := [8, 10]) (by kernel_rfl) (by simp) ?_
      refine zb.cons rfl (fun K hK => ?_) ?_
      ·(try simp only [iq4, iq5, iq6])
       go_simp
       refine hK.out _ _ (fun _ => hHeld) ?_
       clear hK K
       try simp only [Act.put, iq1, iq2, iq3, iq4, iq5, iq6]
       refine zf (rs := [10]) (by kernel_rfl) (by simp) ?_
       refine zb.cons rfl (fun K hK => ?_) ?_
       ·(try simp only [iq4, iq5, iq6])
        obtain ⟨X9, hst9, hr9, ht9⟩ := zk G2.out rfl f2.p f2.v f2.k f2.nx
        have OK9 := ihq (OK2.out.turnedSt ⟨_, G2.out⟩ ht9)
        have HB9 := ihq (HB2.out.trans (ht9.below (B := wa.heap.size) (fun b e => by have := HG.out; omega) HB2.out.size))
        have Hr9 := ihq hr9
        clear hr9 ht9
        go_simp
        refine hK.out _ _ (fun h => (by cases h)) ?_
        clear hHeld hK K hst9
        try simp only [Act.put, iq1, iq2, iq3, iq4, iq5, iq6]
        refine zf (rs := [11]) (by kernel_rfl) (by simp) ?_
        refine zb.cons rfl (fun K hK => ?_) zb.nil
        (try simp only [iq4, iq5, iq6])
        go_simp
        refine hK.out _ _ (fun h => (by cases h)) ?_
        clear hK K
        try simp only [Act.put, iq1, iq2, iq3, iq4, iq5, iq6]
        refine zu (by kernel_rfl) ?_ _
        go_wp2
        go_meet
        exact ⟨_, f2, rfl, rfl, HD.out, OK9.out, Hr9.out, HB9.out⟩
       exact zb.nil
      refine zb.cons rfl (fun K hK => ?_) ?_
      ·(try simp only [iq4, iq5, iq6])
       obtain ⟨X9, hst9, hr9, ht9⟩ := zk G2.out rfl f2.p f2.v f2.k f2.nx
       have OK9 := ihq (OK2.out.turnedSt ⟨_, G2.out⟩ ht9)
       have HB9 := ihq (HB2.out.trans (ht9.below (B := wa.heap.size) (fun b e => by have := HG.out; omega) HB2.out.size))
       have Hr9 := ihq hr9
       clear hr9 ht9
       go_simp
       refine hK.out _ _ (fun h => (by cases h)) ?_
       clear hHeld hK K hst9
       try simp only [Act.put, iq1, iq2, iq3, iq4, iq5, iq6]
       refine zf (rs := [8]) (by kernel_rfl) (by simp) ?_
       refine zb.cons rfl (fun K hK => ?_) ?_
       ·(try simp only [iq4, iq5, iq6])
        go_simp
        refine hK.out _ _ (fun h => (by cases h)) ?_
        clear hK K
        try simp only [Act.put, iq1, iq2, iq3, iq4, iq5, iq6]
        refine zf (rs := [11]) (by kernel_rfl) (by simp) ?_
        refine zb.cons rfl (fun K hK => ?_) zb.nil
        (try simp only [iq4, iq5, iq6])
        go_simp
        refine hK.out _ _ (fun h => (by cases h)) ?_
        clear hK K
        try simp only [Act.put, iq1, iq2, iq3, iq4, iq5, iq6]
        refine zu (by kernel_rfl) ?_ _
        go_wp2
        go_meet
        exact ⟨_, f2, rfl, rfl, HD.out, OK9.out, Hr9.out, HB9.out⟩
       exact zb.nil
      exact zb.nil
     exact zb.nil
    refine zb.cons rfl (fun K hK => ?_) ?_
    ·(try simp only [iq4, iq5, iq6])
     obtain ⟨U1, hU1⟩ : ∃ W, World.alloc wa.drew (.cells #[.slice none 0 0, .slice none 0 0, .slice none 0 0, .int .i64 0] 32) = W := ⟨_, rfl⟩
     have hbn : Below (World.heap wa.drew).size wa.drew U1 := by rw [<- hU1]; exact zg _ _
     have G1 := ihq (show U1.heap[(World.heap wa).size]? = some (.cells #[.slice none 0 0, .slice none 0 0, .slice none 0 0, .int .i64 0] 32 (0, 0)) from (by rw [<- hU1]; exact heap_alloc_new _ _))
     have HG := ihq (show wa.heap.size <= (World.heap wa).size from HB0.out.size)
     have HB1 := ihq (HB0.out.trans (hbn.mono HB0.out.size))
     go_simp
     try rw [hU1]
     clear hbn
     refine hK.out _ _ (fun _ => SS.out _ HB1.out) ?_
     clear hHeld
     have hHeld := SS.out _ HB1.out
     clear hK K
     try simp only [Act.put, iq1, iq2, iq3, iq4, iq5, iq6]
     refine zf (rs := [5]) (by kernel_rfl) (by simp) ?_
     refine zb.cons rfl (fun K hK => ?_) ?_
     ·(try simp only [iq4, iq5, iq6])
      go_simp
      refine (KA.out U1 HB1.out).mono ?_
      rintro e U2 ⟨f2, rfl, hd, hok, hb⟩
      have HD := ihq hd
      have OK2 := ihq hok
      have HB2 := ihq (HB1.out.trans (hb.mono HB1.out.size))
      have G2 := ihq (za G1.out hb)
      clear hd hok hb
      try unfold Rf.val
      refine hK.out _ _ (fun _ => SS.out _ HB2.out) ?_
      clear hHeld
      have hHeld := SS.out _ HB2.out
      clear hK K
      try simp only [Act.put, iq1, iq2, iq3, iq4, iq5, iq6]
      refine zi (i := 6) (v := ?v8) rfl (by kernel_rfl) (fun _ _ _ h => h) (Or.inl ⟨by rfl, ?hy8⟩) hHeld ?rest8
      case hy8 => (intro w' hS; obtain ⟨t1, t2⟩ := hS; (try simp only [iq4, iq5, iq6]); go_simp; try with_reducible rfl)
      try simp only [Act.put, iq1, iq2, iq3, iq4, iq5, iq6]
      refine zi (i := 7) (v := ?v9) rfl (by kernel_rfl) (fun _ _ _ h => h) (Or.inl ⟨by rfl, ?hy9⟩) hHeld ?rest9
      case hy9 => (intro w' hS; obtain ⟨t1, t2⟩ := hS; (try simp only [iq4, iq5, iq6]); go_simp; try with_reducible rfl)
      try simp only [Act.put, iq1, iq2, iq3, iq4, iq5, iq6]
      refine zf (rs := [8, 10]) (by kernel_rfl) (by simp) ?_
      refine zb.cons rfl (fun K hK => ?_) ?_
      ·(try simp only [iq4, iq5, iq6])
       go_simp
       refine hK.out _ _ (fun _ => hHeld) ?_
       clear hK K
       try simp only [Act.put, iq1, iq2, iq3, iq4, iq5, iq6]
       refine zf (rs := [10]) (by kernel_rfl) (by simp) ?_
       refine zb.cons rfl (fun K hK => ?_) ?_
       ·(try simp only [iq4, iq5, iq6])
        obtain ⟨X9, hst9, hr9, ht9⟩ := zk G2.out rfl f2.p f2.v f2.k f2.nx
        have OK9 := ihq (OK2.out.turnedSt ⟨_, G2.out⟩ ht9)
        have HB9 := ihq (HB2.out.trans (ht9.below (B := wa.heap.size) (fun b e => by have := HG.out; omega) HB2.out.size))
        have Hr9 := ihq hr9
        clear hr9 ht9
        go_simp
        refine hK.out _ _ (fun h => (by cases h)) ?_
        clear hHeld hK K hst9
        try simp only [Act.put, iq1, iq2, iq3, iq4, iq5, iq6]
        refine zf (rs := [11]) (by kernel_rfl) (by simp) ?_
        refine zb.cons rfl (fun K hK => ?_) zb.nil
        (try simp only [iq4, iq5, iq6])
        go_simp
        refine hK.out _ _ (fun h => (by cases h)) ?_
        clear hK K
        try simp only [Act.put, iq1, iq2, iq3, iq4, iq5, iq6]
        refine zu (by kernel_rfl) ?_ _
        go_wp2
        go_meet
        exact ⟨_, f2, rfl, rfl, HD.out, OK9.out, Hr9.out, HB9.out⟩
       exact zb.nil
      refine zb.cons rfl (fun K hK => ?_) ?_
      ·(try simp only [iq4, iq5, iq6])
       obtain ⟨X9, hst9, hr9, ht9⟩ := zk G2.out rfl f2.p f2.v f2.k f2.nx
       have OK9 := ihq (OK2.out.turnedSt ⟨_, G2.out⟩ ht9)
       have HB9 := ihq (HB2.out.trans (ht9.below (B := wa.heap.size) (fun b e => by have := HG.out; omega) HB2.out.size))
       have Hr9 := ihq hr9
       clear hr9 ht9
       go_simp
       refine hK.out _ _ (fun h => (by cases h)) ?_
       clear hHeld hK K hst9
       try simp only [Act.put, iq1, iq2, iq3, iq4, iq5, iq6]
       refine zf (rs := [8]) (by kernel_rfl) (by simp) ?_
       refine zb.cons rfl (fun K hK => ?_) ?_
       ·(try simp only [iq4, iq5, iq6])
        go_simp
        refine hK.out _ _ (fun h => (by cases h)) ?_
        clear hK K
        try simp only [Act.put, iq1, iq2, iq3, iq4, iq5, iq6]
        refine zf (rs := [11]) (by kernel_rfl) (by simp) ?_
        refine zb.cons rfl (fun K hK => ?_) zb.nil
        (try simp only [iq4, iq5, iq6])
        go_simp
        refine hK.out _ _ (fun h => (by cases h)) ?_
        clear hK K
        try simp only [Act.put, iq1, iq2, iq3, iq4, iq5, iq6]
        refine zu (by kernel_rfl) ?_ _
        go_wp2
        go_meet
        exact ⟨_, f2, rfl, rfl, HD.out, OK9.out, Hr9.out, HB9.out⟩
       exact zb.nil
      exact zb.nil
     exact zb.nil
    exact zb.nil
   case' rest =>
    obtain ⟨ax, f2, rfl, rfl, hd2, hok2, hr2b, hb4⟩ := hcut
    have hrx4 := za Hra.out hb4
    have hst4 := Hsa.out.below hb4
    obtain ⟨w5, hst5, hr5, ht5⟩ := zk hrx4 rfl f2.p f2.v f2.k f2.nx
    have l2 := zR hr2b
    have hs5 := ihq (hst4.turnedR hrx4 ht5)
    have ok5 := ihq (hok2.turnedSt ⟨_, hrx4⟩ ht5)
    have hb5 := ihq (show Below w.heap.size w w5 from (Hba.out.trans (hb4.mono Hba.out.size)).trans (ht5.below (fun k e => by have := Hgx.out; omega) (Nat.le_trans Hba.out.size hb4.size)))
    have Hr5 := ihq hr5
    have Hrel := ihq (show Rel s' f2.dat from by rw [hd2]; exact Hr2.out)
    clear hrx4 hst4 hr5 ht5 hd2 hok2 hr2b hb4 KA SS
    go_wp2
    go_roundw
    case rel => exact ⟨i + 1, s', f2, by omega, by go_num, Hgs'.out, Htd'.out, Hrel.out, hs5.out, ok5.out, Hr5.out, hb5.out⟩
    case measure => simp [intOf]; omega
  ·obtain rfl : i = n := by omega
   have i1 : ¬ (i : Int) < (i : Int) := by omega
   obtain ⟨bS, hbS⟩ : ∃ x, y6 s = x := ⟨_, rfl⟩
   obtain ⟨L, hL⟩ : ∃ x, bS.length = x := ⟨_, rfl⟩
   have hL5 := Qf (Hgs.out.d.fit (by omega)) Hgs.out.d.four
   rw [hbS, hL] at hL5
   have KB := ihq (fun g V (hv : StAt V g s) => (show Calls Tryz.prog 11 #[.pointer (some ⟨g, 0, none⟩)] V fun e V' => ∃ A c, e = .returned (.slice A L c) /\ Seen V' A (zT bS) /\ Below V.heap.size V V' from by
    have := Qm g s V hv (Hgs.out.d.fit (by omega)) Hgs.out.d.four
    rw [hbS, hL] at this
    exact this))
   have KL := ihq (fun A c V (hv : Seen V A (zT bS)) => (show Calls Tryz.prog 10 #[.slice A L c] V fun e V' => ∃ g, e = .returned (.tuple #[.pointer (some ⟨g, 0, none⟩), .bool true]) /\ V.heap.size <= g /\ StAt V' g s /\ Below V.heap.size V V' from
    VLoad_self s A L c V Hgs.out Htd.out (by omega) (by omega) (by rw [hbS, hL]) (by rw [hbS]; exact hv)))
   have HLn := ihq hL
   clear hbS hL
   go_wp2_with (first
    | (go_at_call 13; refine (Same_any A8 A9 L L c8 c9 bS bS w9 HLn.out HLn.out (Hs8.out.below Hb9.out) Hs9.out (by omega)).mono ?_; rintro e w10 ⟨rfl, hb10⟩; rw [decide_eq_true rfl]; have Hb10 := ihq (((Hb7.out.trans (Hb8.out.mono Hb7.out.size)).trans (Hb9.out.mono (Nat.le_trans Hb7.out.size Hb8.out.size))).trans (hb10.mono (Nat.le_trans Hb7.out.size (Nat.le_trans Hb8.out.size Hb9.out.size)))); clear hb10)
    | (go_at_call 11; refine (KB.out w.heap.size w8 ((Hst.out.below (Hb6.out.trans (Hb7.out.mono Hb6.out.size))).below Hb8.out)).mono ?_; rintro e w9 ⟨A9, c9, rfl, hs9, hb9⟩; have Hs9 := ihq hs9; have Hb9 := ihq hb9; clear hs9 hb9)
    | (go_at_call 11; refine (KB.out gT w7 (Hst6.out.below Hb7.out)).mono ?_; rintro e w8 ⟨A8, c8, rfl, hs8, hb8⟩; have Hs8 := ihq hs8; have Hb8 := ihq hb8; clear hs8 hb8)
    | (go_at_call 12; refine KSh.out.mono ?_; rintro e w7 ⟨rfl, hb7⟩; have Hb7 := ihq hb7; clear hb7)
    | (go_at_call 10; refine (KL.out A5 c5 w5 Hs5.out).mono ?_; rintro e w6 ⟨gT, rfl, hg6, hs6, hb6⟩; have Hg6 := ihq (show w.heap.size <= gT from Nat.le_trans (Nat.le_trans Hb.out.size Hb5.out.size) hg6); have Hst6 := ihq hs6; have Hb6 := ihq (Hb5.out.trans (hb6.mono Hb5.out.size)); have KSh := ihq (Q3 _ s f gT w6 hs6 (Hok.out.below Hb6.out) Hrl.out Hgs.out.d (by omega)); unfold Rf.val at KSh; have l6 := zR (za Hrx.out Hb6.out); clear hg6 hs6 hb6)
    | (go_at_call 11; refine (KB.out w.heap.size wr Hst.out).mono ?_; rintro e w5 ⟨A5, c5, rfl, hs5, hb5⟩; have Hs5 := ihq hs5; have Hb5 := ihq hb5; clear hs5 hb5))
   have Hst10 := ihq (Hst6.out.below Hb10.out)
   have Hb610 := Hb6.out.trans (Hb10.out.mono Hb6.out.size)
   have Hok10 := ihq (Hok.out.below Hb610)
   have Hrx10 := ihq (za Hrx.out Hb610)
   have Hbw := ihq (Hb.out.trans (Hb610.mono Hb.out.size))
   have Hgx2 := ihq (show gT < w10.heap.size from Hst10.out.lt)
   clear Hb610 Hs5 Hb5 Hst6 Hb6 KSh l6 Hb7 Hs8 Hb8 Hs9 Hb9 Hb10 KB KL HLn Hok Hrx Hst Htd
   obtain ⟨s0, hs0⟩ : ∃ x, s = x := ⟨_, rfl⟩
   obtain ⟨f0', hf0'⟩ : ∃ x, f = x := ⟨_, rfl⟩
   rw [hs0] at Hgs Hrl Hst10
   rw [hf0'] at Hrl Hok10 Hrx10
   clear hs0 hf0'
   go_loopw [14] (fun iv wq => ∃ (j : Nat) (s : St) (f : Rf), j <= m /\ iv = .int .i64 (j : Int) /\ xS ((i + j : Nat) : Int) s /\ Rel s f.dat /\ StAt wq gT s /\ RfOk wq f /\ wq.heap[w2.heap.size]? = some (.cells #[.slice f.p.A f.p.n f.p.c, .slice f.v.A f.v.n f.v.c, .slice f.k.A f.k.n f.k.c, .int .i64 f.nx] 32 (0, 0)) /\ Below w.heap.size w wq) (fun iv _ => m - (intOf iv).toNat)
   case atStart => exact ⟨0, s0, f0', Nat.zero_le _, rfl, Hgs.out, Hrl.out, Hst10.out, Hok10.out, Hrx10.out, Hbw.out⟩
   case round =>
    clear Hst10 Hok10 Hrx10 Hbw Hgs Hrl Hb
    obtain ⟨j, s, f, hjm, rfl, hgs, hrl, hst, hok, hrx, hb⟩ := hrel
    have Hgs := ihq hgs; have Hrl := ihq hrl; have Hst := ihq hst; have Hok := ihq hok; have Hrx := ihq hrx; have Hb := ihq hb
    clear hgs hrl hst hok hrx hb
    obtain ⟨N, hN⟩ : ∃ N, i + j = N := ⟨_, rfl⟩
    rw [hN] at Hgs
    by_cases hj : j < m
    ·obtain ⟨ga, o, c, rfl, hx, hat⟩ := Hs'.out.get (k := j) (by rw [Hn'.out]; exact hj)
     have i0 : (0 : Int) <= (N : Int) := by omega
     have i2 : (j : Int) < (m : Int) := by omega
     have j0 : (0 : Int) <= (j : Int) := by omega
     have Hat := ihq (hat.below Hb.out); have Hat0 := ihq hat
     have SS := ihq (fun V (hv : Below wr.heap.size wr V) => (⟨zR (za Hrx.out hv), Ys (Hat.out.below hv)⟩ : (ldRf (.pointer (some ⟨w2.heap.size, 0, none⟩))).run Tryz.prog V = .ok (.agg #[.slice f.p.A f.p.n f.p.c, .slice f.v.A f.v.n f.v.c, .slice f.k.A f.k.n f.k.c, .int .i64 f.nx]) V /\ (Ye (.pointer (some ⟨ga, o + j * 8, none⟩))).run Tryz.prog V = .ok (.agg #[.int .i64 c.k, .int .i64 c.a, .int .i64 c.b, .int .i64 c.c, .int .i64 c.p.re, .int .i64 c.p.we, .int .i64 c.p.li, .int .i64 c.p.bu]) V))
     have hrf : Yj f.dat := Yj.of Hrl.out Hgs.out.d (by omega)
     obtain ⟨he2, hr2⟩ := Hrl.out.apply Hgs.out i0 hat.2
     obtain ⟨hgs', _⟩ := ZF Hgs.out i0 hat.2
     have hrd := Hgs.out.ready i0 (by omega) hat.2
     obtain ⟨er, her⟩ : ∃ e, (yR s c).2 = e := ⟨_, rfl⟩
     rw [her] at he2
     have KA := ihq (fun V (hv : Below wr.heap.size wr V) => Qq f c V (Hok.out.below hv) hrf hat.2)
     unfold Rf.val cmdA at KA
     rw [he2] at KA
     obtain ⟨s', hs'⟩ : ∃ s', (yR s c).1 = s' := ⟨_, rfl⟩
     rw [hs'] at hr2 hgs'
     have KS := ihq (fun V (hv : StAt V gT s) => (show Calls Tryz.prog 8 #[.pointer (some ⟨gT, 0, none⟩), cmdA c] V fun e V' => e = .returned (.int .i64 er) /\ StAt V' gT s' /\ Turned (fun k => k = gT) V V' from by
      rw [<- her, <- hs']
      exact Qo gT s c V hv hrd))
     unfold cmdA at KS
     have Hr2 := ihq hr2; have Hgs' := ihq (show xS ((i + (j + 1) : Nat) : Int) s' from by rw [show ((i + (j + 1) : Nat) : Int) = (N : Int) + 1 by omega]; exact hgs')
     clear hx hat hrf he2 hr2 hgs' hrd her hs'
     go_upto_region 18 with fail
     go_cut [15, 16] (fun x1 x2 wx => ∃ (ax : Nat) (f2 : Rf), x1 = .pointer (some ⟨ax, 0, none⟩) /\ x2 = .int .i64 er /\ f2.dat = (ZY f.dat c).1 /\ RfOk wx f2 /\ wx.heap[ax]? = some (.cells #[.slice f2.p.A f2.p.n f2.p.c, .slice f2.v.A f2.v.n f2.v.c, .slice f2.k.A f2.k.n f2.k.c, .int .i64 f2.nx] 32 (0, 0)) /\ Below wr.heap.size wr wx)
     case' first =>
      have HB0 := ihq (Below.refl wr.heap.size wr).drew
      refine zU (S := fun V => (ldRf (.pointer (some ⟨w2.heap.size, 0, none⟩))).run Tryz.prog V = .ok (.agg #[.slice f.p.A f.p.n f.p.c, .slice f.v.A f.v.n f.v.c, .slice f.k.A f.k.n f.k.c, .int .i64 f.nx]) V /\ (Ye (.pointer (some ⟨ga, o + j * 8, none⟩))).run Tryz.prog V = .ok (.agg #[.int .i64 c.k, .int .i64 c.a, .int .i64 c.b, .int .i64 c.c, .int .i64 c.p.re, .int .i64 c.p.we, .int .i64 c.p.li, .int .i64 c.p.bu]) V) 10 (by kernel_rfl) ?_
      have hHeld := SS.out _ HB0.out
      refine zi (i := 0) (v := ?v51) rfl (by kernel_rfl) (fun _ _ _ h => h) (Or.inl ⟨by rfl, ?hy51⟩) hHeld ?rest51
      case hy51 => (intro w' hS; obtain ⟨t1, t2⟩ := hS; (try simp only [iq4, iq5, iq6]); go_simp; try with_reducible rfl)
      try simp only [Act.put, iq1, iq2, iq3, iq4, iq5, iq6]
      refine zi (i := 1) (v := ?v52) rfl (by kernel_rfl) (fun _ _ _ h => h) (Or.inl ⟨by rfl, ?hy52⟩) hHeld ?rest52
      case hy52 => (intro w' hS; obtain ⟨t1, t2⟩ := hS; (try simp only [iq4, iq5, iq6]); go_simp; try with_reducible rfl)
      try simp only [Act.put, iq1, iq2, iq3, iq4, iq5, iq6]
      refine zi (i := 2) (v := ?v53) rfl (by kernel_rfl) (fun _ _ _ h => h) (Or.inl ⟨by rfl, ?hy53⟩) hHeld ?rest53
      case hy53 => (intro w' hS; obtain ⟨t1, t2⟩ := hS; (try simp only [iq4, iq5, iq6]); go_simp; try with_reducible rfl)
      try simp only [Act.put, iq1, iq2, iq3, iq4, iq5, iq6]
      refine zi (i := 3) (v := ?v54) rfl (by kernel_rfl) (fun _ _ _ h => h) (Or.inl ⟨by rfl, ?hy54⟩) hHeld ?rest54
      case hy54 => (intro w' hS; obtain ⟨t1, t2⟩ := hS; (try simp only [iq4, iq5, iq6]); go_simp; try with_reducible rfl)
      try simp only [Act.put, iq1, iq2, iq3, iq4, iq5, iq6]
      refine zi (i := 4) (v := ?v55) rfl (by kernel_rfl) (fun _ _ _ h => h) (Or.inl ⟨by rfl, ?hy55⟩) hHeld ?rest55
      case hy55 => (intro w' hS; obtain ⟨t1, t2⟩ := hS; (try simp only [iq4, iq5, iq6]); go_simp; try with_reducible rfl)
      try simp only [Act.put, iq1, iq2, iq3, iq4, iq5, iq6]
      refine zf (rs := [5, 9]) (by kernel_rfl) (by simp) ?_
      refine zb.cons rfl (fun K hK => ?_) ?_
      ·(try simp only [iq4, iq5, iq6])
       go_simp
       refine (KA.out wr.drew HB0.out).mono ?_
       rintro e U1 ⟨f2, rfl, hd, hok, hb⟩
       have HD := ihq hd
       have OK1 := ihq hok
       have HB1 := ihq (HB0.out.trans (hb.mono HB0.out.size))
       clear hd hok hb
       try unfold Rf.val
       refine hK.out _ _ (fun _ => SS.out _ HB1.out) ?_
       clear hHeld
       have hHeld := SS.out _ HB1.out
       clear hK K
       try simp only [Act.put, iq1, iq2, iq3, iq4, iq5, iq6]
       refine zi (i := 6) (v := ?v56) rfl (by kernel_rfl) (fun _ _ _ h => h) (Or.inl ⟨by rfl, ?hy56⟩) hHeld ?rest56
       case hy56 => (intro w' hS; obtain ⟨t1, t2⟩ := hS; (try simp only [iq4, iq5, iq6]); go_simp; try with_reducible rfl)
       try simp only [Act.put, iq1, iq2, iq3, iq4, iq5, iq6]
       refine zi (i := 7) (v := ?v57) rfl (by kernel_rfl) (fun _ _ _ h => h) (Or.inl ⟨by rfl, ?hy57⟩) hHeld ?rest57
       case hy57 => (intro w' hS; obtain ⟨t1, t2⟩ := hS; (try simp only [iq4, iq5, iq6]); go_simp; try with_reducible rfl)
       try simp only [Act.put, iq1, iq2, iq3, iq4, iq5, iq6]
       refine zf (rs := [8, 9]) (by kernel_rfl) (by simp) ?_
       refine zb.cons rfl (fun K hK => ?_) ?_
       ·(try simp only [iq4, iq5, iq6])
        go_simp
        refine hK.out _ _ (fun _ => hHeld) ?_
        clear hK K
        try simp only [Act.put, iq1, iq2, iq3, iq4, iq5, iq6]
        refine zf (rs := [9]) (by kernel_rfl) (by simp) ?_
        refine zb.cons rfl (fun K hK => ?_) ?_
        ·(try simp only [iq4, iq5, iq6])
         obtain ⟨U2, hU2⟩ : ∃ W, World.alloc U1 (.cells #[.slice none 0 0, .slice none 0 0, .slice none 0 0, .int .i64 0] 32) = W := ⟨_, rfl⟩
         have hbn : Below (World.heap U1).size U1 U2 := by rw [<- hU2]; exact zg _ _
         have G2 := ihq (show U2.heap[(World.heap U1).size]? = some (.cells #[.slice none 0 0, .slice none 0 0, .slice none 0 0, .int .i64 0] 32 (0, 0)) from (by rw [<- hU2]; exact heap_alloc_new _ _))
         have HG := ihq (show wr.heap.size <= (World.heap U1).size from HB1.out.size)
         have HB2 := ihq (HB1.out.trans (hbn.mono HB1.out.size))
         have OK2 := ihq (OK1.out.below hbn)
         go_simp
         try rw [hU2]
         clear hbn
         refine hK.out _ _ (fun _ => SS.out _ HB2.out) ?_
         clear hHeld
         have hHeld := SS.out _ HB2.out
         clear hK K
         try simp only [Act.put, iq1, iq2, iq3, iq4, iq5, iq6]
         refine zf (rs := [10]) (by kernel_rfl) (by simp) ?_
         refine zb.cons rfl (fun K hK => ?_) ?_
         ·(try simp only [iq4, iq5, iq6])
          obtain ⟨X9, hst9, hr9, ht9⟩ := zk G2.out rfl f2.p f2.v f2.k f2.nx
          have OK9 := ihq (OK2.out.turnedSt ⟨_, G2.out⟩ ht9)
          have HB9 := ihq (HB2.out.trans (ht9.below (B := wr.heap.size) (fun b e => by have := HG.out; omega) HB2.out.size))
          have Hr9 := ihq hr9
          clear hr9 ht9
          go_simp
          refine hK.out _ _ (fun h => (by cases h)) ?_
          clear hHeld hK K hst9
          try simp only [Act.put, iq1, iq2, iq3, iq4, iq5, iq6]
          refine zf (rs := [11]) (by kernel_rfl) (by simp) ?_
          refine zb.cons rfl (fun K hK => ?_) zb.nil
          (try simp only [iq4, iq5, iq6])
          go_simp
          refine hK.out _ _ (fun h => (by cases h)) ?_
          clear hK K
          try simp only [Act.put, iq1, iq2, iq3, iq4, iq5, iq6]
          refine zu (by kernel_rfl) ?_ _
          go_wp2
          go_meet
          exact ⟨_, f2, rfl, rfl, HD.out, OK9.out, Hr9.out, HB9.out⟩
         exact zb.nil
        exact zb.nil
       refine zb.cons rfl (fun K hK => ?_) ?_
       ·(try simp only [iq4, iq5, iq6])
        obtain ⟨U2, hU2⟩ : ∃ W, World.alloc U1 (.cells #[.slice none 0 0, .slice none 0 0, .slice none 0 0, .int .i64 0] 32) = W := ⟨_, rfl⟩
        have hbn : Below (World.heap U1).size U1 U2 := by rw [<- hU2]; exact zg _ _
        have G2 := ihq (show U2.heap[(World.heap U1).size]? = some (.cells #[.slice none 0 0, .slice none 0 0, .slice none 0 0, .int .i64 0] 32 (0, 0)) from (by rw [<- hU2]; exact heap_alloc_new _ _))
        have HG := ihq (show wr.heap.size <= (World.heap U1).size from HB1.out.size)
        have HB2 := ihq (HB1.out.trans (hbn.mono HB1.out.size))
        have OK2 := ihq (OK1.out.below hbn)
        go_simp
        try rw [hU2]
        clear hbn
        refine hK.out _ _ (fun _ => SS.out _ HB2.out) ?_
        clear hHeld
        have hHeld := SS.out _ HB2.out
        clear hK K
        try simp only [Act.put, iq1, iq2, iq3, iq4, iq5, iq6]
        refine zf (rs := [8, 10]) (by kernel_rfl) (by simp) ?_
        refine zb.cons rfl (fun K hK => ?_) ?_
        ·(try simp only [iq4, iq5, iq6])
         go_simp
         refine hK.out _ _ (fun _ => hHeld) ?_
         clear hK K
         try simp only [Act.put, iq1, iq2, iq3, iq4, iq5, iq6]
         refine zf (rs := [10]) (by kernel_rfl) (by simp) ?_
         refine zb.cons rfl (fun K hK => ?_) ?_
         ·(try simp only [iq4, iq5, iq6])
          obtain ⟨X9, hst9, hr9, ht9⟩ := zk G2.out rfl f2.p f2.v f2.k f2.nx
          have OK9 := ihq (OK2.out.turnedSt ⟨_, G2.out⟩ ht9)
          have HB9 := ihq (HB2.out.trans (ht9.below (B := wr.heap.size) (fun b e => by have := HG.out; omega) HB2.out.size))
          have Hr9 := ihq hr9
          clear hr9 ht9
          go_simp
          refine hK.out _ _ (fun h => (by cases h)) ?_
          clear hHeld hK K hst9
          try simp only [Act.put, iq1, iq2, iq3, iq4, iq5, iq6]
          refine zf (rs := [11]) (by kernel_rfl) (by simp) ?_
          refine zb.cons rfl (fun K hK => ?_) zb.nil
          (try simp only [iq4, iq5, iq6])
          go_simp
          refine hK.out _ _ (fun h => (by cases h)) ?_
          clear hK K
          try simp only [Act.put, iq1, iq2, iq3, iq4, iq5, iq6]
          refine zu (by kernel_rfl) ?_ _
          go_wp2
          go_meet
          exact ⟨_, f2, rfl, rfl, HD.out, OK9.out, Hr9.out, HB9.out⟩
         exact zb.nil
        refine zb.cons rfl (fun K hK => ?_) ?_
        ·(try simp only [iq4, iq5, iq6])
         obtain ⟨X9, hst9, hr9, ht9⟩ := zk G2.out rfl f2.p f2.v f2.k f2.nx
         have OK9 := ihq (OK2.out.turnedSt ⟨_, G2.out⟩ ht9)
         have HB9 := ihq (HB2.out.trans (ht9.below (B := wr.heap.size) (fun b e => by have := HG.out; omega) HB2.out.size))
         have Hr9 := ihq hr9
         clear hr9 ht9
         go_simp
         refine hK.out _ _ (fun h => (by cases h)) ?_
         clear hHeld hK K hst9
         try simp only [Act.put, iq1, iq2, iq3, iq4, iq5, iq6]
         refine zf (rs := [8]) (by kernel_rfl) (by simp) ?_
         refine zb.cons rfl (fun K hK => ?_) ?_
         ·(try simp only [iq4, iq5, iq6])
          go_simp
          refine hK.out _ _ (fun h => (by cases h)) ?_
          clear hK K
          try simp only [Act.put, iq1, iq2, iq3, iq4, iq5, iq6]
          refine zf (rs := [11]) (by kernel_rfl) (by simp) ?_
          refine zb.cons rfl (fun K hK => ?_) zb.nil
          (try simp only [iq4, iq5, iq6])
          go_simp
          refine hK.out _ _ (fun h => (by cases h)) ?_
          clear hK K
          try simp only [Act.put, iq1, iq2, iq3, iq4, iq5, iq6]
          refine zu (by kernel_rfl) ?_ _
          go_wp2
          go_meet
          exact ⟨_, f2, rfl, rfl, HD.out, OK9.out, Hr9.out, HB9.out⟩
         exact zb.nil
        exact zb.nil
       exact zb.nil
      refine zb.cons rfl (fun K hK => ?_) ?_
      ·(try simp only [iq4, iq5, iq6])
       obtain ⟨U1, hU1⟩ : ∃ W, World.alloc wr.drew (.cells #[.slice none 0 0, .slice none 0 0, .slice none 0 0, .int .i64 0] 32) = W := ⟨_, rfl⟩
       have hbn : Below (World.heap wr.drew).size wr.drew U1 := by rw [<- hU1]; exact zg _ _
       have G1 := ihq (show U1.heap[(World.heap wr).size]? = some (.cells #[.slice none 0 0, .slice none 0 0, .slice none 0 0, .int .i64 0] 32 (0, 0)) from (by rw [<- hU1]; exact heap_alloc_new _ _))
       have HG := ihq (show wr.heap.size <= (World.heap wr).size from HB0.out.size)
       have HB1 := ihq (HB0.out.trans (hbn.mono HB0.out.size))
       go_simp
       try rw [hU1]
       clear hbn
       refine hK.out _ _ (fun _ => SS.out _ HB1.out) ?_
       clear hHeld
       have hHeld := SS.out _ HB1.out
       clear hK K
       try simp only [Act.put, iq1, iq2, iq3, iq4, iq5, iq6]
       refine zf (rs := [5]) (by kernel_rfl) (by simp) ?_
       refine zb.cons rfl (fun K hK => ?_) ?_
       ·(try simp only [iq4, iq5, iq6])
        go_simp
        refine (KA.out U1 HB1.out).mono ?_
        rintro e U2 ⟨f2, rfl, hd, hok, hb⟩
        have HD := ihq hd
        have OK2 := ihq hok
        have HB2 := ihq (HB1.out.trans (hb.mono HB1.out.size))
        have G2 := ihq (za G1.out hb)
        clear hd hok hb
        try unfold Rf.val
        refine hK.out _ _ (fun _ => SS.out _ HB2.out) ?_
        clear hHeld
        have hHeld := SS.out _ HB2.out
        clear hK K
        try simp only [Act.put, iq1, iq2, iq3, iq4, iq5, iq6]
        refine zi (i := 6) (v := ?v58) rfl (by kernel_rfl) (fun _ _ _ h => h) (Or.inl ⟨by rfl, ?hy58⟩) hHeld ?rest58
        case hy58 => (intro w' hS; obtain ⟨t1, t2⟩ := hS; (try simp only [iq4, iq5, iq6]); go_simp; try with_reducible rfl)
        try simp only [Act.put, iq1, iq2, iq3, iq4, iq5, iq6]
        refine zi (i := 7) (v := ?v59) rfl (by kernel_rfl) (fun _ _ _ h => h) (Or.inl ⟨by rfl, ?hy59⟩) hHeld ?rest59
        case hy59 => (intro w' hS; obtain ⟨t1, t2⟩ := hS; (try simp only [iq4, iq5, iq6]); go_simp; try with_reducible rfl)
        try simp only [Act.put, iq1, iq2, iq3, iq4, iq5, iq6]
        refine zf (rs := [8, 10]) (by kernel_rfl) (by simp) ?_
        refine zb.cons rfl (fun K hK => ?_) ?_
        ·(try simp only [iq4, iq5, iq6])
         go_simp
         refine hK.out _ _ (fun _ => hHeld) ?_
         clear hK K
         try simp only [Act.put, iq1, iq2, iq3, iq4, iq5, iq6]
         refine zf (rs := [10]) (by kernel_rfl) (by simp) ?_
         refine zb.cons rfl (fun K hK => ?_) ?_
         ·(try simp only [iq4, iq5, iq6])
          obtain ⟨X9, hst9, hr9, ht9⟩ := zk G2.out rfl f2.p f2.v f2.k f2.nx
          have OK9 := ihq (OK2.out.turnedSt ⟨_, G2.out⟩ ht9)
          have HB9 := ihq (HB2.out.trans (ht9.below (B := wr.heap.size) (fun b e => by have := HG.out; omega) HB2.out.size))
          have Hr9 := ihq hr9
          clear hr9 ht9
          go_simp
          refine hK.out _ _ (fun h => (by cases h)) ?_
          clear hHeld hK K hst9
          try simp only [Act.put, iq1, iq2, iq3, iq4, iq5, iq6]
          refine zf (rs := [11]) (by kernel_rfl) (by simp) ?_
          refine zb.cons rfl (fun K hK => ?_) zb.nil
          (try simp only [iq4, iq5, iq6])
          go_simp
          refine hK.out _ _ (fun h => (by cases h)) ?_
          clear hK K
          try simp only [Act.put, iq1, iq2, iq3, iq4, iq5, iq6]
          refine zu (by kernel_rfl) ?_ _
          go_wp2
          go_meet
          exact ⟨_, f2, rfl, rfl, HD.out, OK9.out, Hr9.out, HB9.out⟩
         exact zb.nil
        refine zb.cons rfl (fun K hK => ?_) ?_
        ·(try simp only [iq4, iq5, iq6])
         obtain ⟨X9, hst9, hr9, ht9⟩ := zk G2.out rfl f2.p f2.v f2.k f2.nx
         have OK9 := ihq (OK2.out.turnedSt ⟨_, G2.out⟩ ht9)
         have HB9 := ihq (HB2.out.trans (ht9.below (B := wr.heap.size) (fun b e => by have := HG.out; omega) HB2.out.size))
         have Hr9 := ihq hr9
         clear hr9 ht9
         go_simp
         refine hK.out _ _ (fun h => (by cases h)) ?_
         clear hHeld hK K hst9
         try simp only [Act.put, iq1, iq2, iq3, iq4, iq5, iq6]
         refine zf (rs := [8]) (by kernel_rfl) (by simp) ?_
         refine zb.cons rfl (fun K hK => ?_) ?_
         ·(try simp only [iq4, iq5, iq6])
          go_simp
          refine hK.out _ _ (fun h => (by cases h)) ?_
          clear hK K
          try simp only [Act.put, iq1, iq2, iq3, iq4, iq5, iq6]
          refine zf (rs := [11]) (by kernel_rfl) (by simp) ?_
          refine zb.cons rfl (fun K hK => ?_) zb.nil
          (try simp only [iq4, iq5, iq6])
          go_simp
          refine hK.out _ _ (fun h => (by cases h)) ?_
          clear hK K
          try simp only [Act.put, iq1, iq2, iq3, iq4, iq5, iq6]
          refine zu (by kernel_rfl) ?_ _
          go_wp2
          go_meet
          exact ⟨_, f2, rfl, rfl, HD.out, OK9.out, Hr9.out, HB9.out⟩
         exact zb.nil
        exact zb.nil
       exact zb.nil
      exact zb.nil
     case' rest =>
      obtain ⟨ax, f2, rfl, rfl, hd2, hok2, hr2b, hb4⟩ := hcut
      have hrx4 := za Hrx.out hb4
      have hst4 := Hst.out.below hb4
      obtain ⟨w5, hst5, hr5, ht5⟩ := zk hrx4 rfl f2.p f2.v f2.k f2.nx
      have l2 := zR hr2b
      have hs5 := hst4.turnedR hrx4 ht5
      have ok5 := hok2.turnedSt ⟨_, hrx4⟩ ht5
      have hb5 : Below w.heap.size w w5 := (Hb.out.trans (hb4.mono Hb.out.size)).trans (ht5.below (fun k e => by have := Hgx.out; omega) (Nat.le_trans Hb.out.size hb4.size))
      have lc := Ys (Hat0.out.below hb5)
      have hne := hs5.neR hr5
      have KS5 := ihq (KS.out w5 hs5)
      have Hs5 := ihq hs5; have Ok5 := ihq ok5; have Hb5 := ihq hb5; have Hr5 := ihq hr5; have Hne := ihq hne; have Hd2 := ihq hd2
      have e1 : (er != er) = false := by simp
      clear hrx4 hst4 hr5 ht5 hs5 ok5 hb5 hne hd2 hok2 hr2b hb4 KS KA
      go_wp2_with (first
       | (go_at_call 12; refine KSh.out.mono ?_; rintro e w7 ⟨rfl, hb7⟩; have Hb7 := ihq hb7; clear hb7)
       | (go_at_call 8; refine KS5.out.mono ?_; rintro e w6 ⟨rfl, hst6, ht6⟩; have hr6 := ht6.heap Hr5.out (fun e => Hne.out e); have ok6 := Ok5.out.turnedV Hs5.out ht6; have hrel6 : Rel s' f2.dat := by rw [Hd2.out]; exact Hr2.out
          have KSh := ihq (Q3 _ s' f2 gT w6 hst6 ok6 hrel6 Hgs'.out.d (by omega)); unfold Rf.val at KSh; have l6 := zR hr6; have Hst6 := ihq hst6; have Ok6 := ihq ok6; have Hr6 := ihq hr6; have Hrel6 := ihq hrel6
          have Hb6 := ihq (Hb5.out.trans (ht6.below (fun k e => by have := Hg6.out; omega) Hb5.out.size)); clear hst6 ht6 hr6 ok6 hrel6))
      go_roundw
      case rel => exact ⟨j + 1, s', f2, by omega, by go_num, Hgs'.out, Hrel6.out, Hst6.out.below Hb7.out, Ok6.out.below Hb7.out, za Hr6.out Hb7.out, Hb6.out.trans (Hb7.out.mono Hb6.out.size)⟩
      case measure => simp [intOf]; omega
    ·obtain rfl : j = m := by omega
     have i2 : ¬ (j : Int) < (j : Int) := by omega
     have hsb := ihq (HB.out.below Hb.out)
     by_cases ho : okL xY b = true
     ·have KO := ihq (VLoad_yes B k ck b wr Hk.out (by omega) hsb.out ho)
      clear ho
      go_wp2_with (first
       | (go_at_call 5; refine (Qn _).mono ?_; rintro e w7 ⟨rfl, hb7⟩; have Hb7 := ihq (Hb6.out.trans (hb7.mono Hb6.out.size)); clear hb7)
       | (go_at_call 13; refine (Same_any A5 B k k c5 ck b b w5 Hk.out Hk.out Hs5.out (hsb.out.below Hb5.out) (by omega)).mono ?_; rintro e w6 ⟨rfl, hb6⟩; rw [decide_eq_true rfl]; have Hb6 := ihq (Hb5.out.trans (hb6.mono Hb5.out.size)); clear hb6)
       | (go_at_call 11; refine KU.out.mono ?_; rintro e w5 ⟨A5, c5, rfl, hs5, hb5⟩; have Hs5 := ihq hs5; have Hb5 := ihq (Hb4.out.trans (hb5.mono Hb4.out.size)); clear hs5 hb5)
       | (go_at_call 10; refine KO.out.mono ?_; rintro e w4 ⟨⟨gU, u, rfl, hu, hf, h4, hbu⟩, hb4⟩; have Hb4 := ihq hb4; have KU := Qm gU u w4 hu hf h4; rw [hbu, Hk.out] at KU; have KU := ihq KU; clear hu hf h4 hbu hb4))
      go_ret
      exact ⟨rfl, Hb.out.trans (Hb7.out.mono Hb.out.size)⟩
     ·have KO := ihq (VLoad_no B k ck b wr Hk.out (by omega) hsb.out ho)
      clear ho
      go_wp2_with (first
       | (go_at_call 5; refine (Qn _).mono ?_; rintro e w7 ⟨rfl, hb7⟩; have Hb7 := ihq (Hb4.out.trans (hb7.mono Hb4.out.size)); clear hb7)
       | (go_at_call 10; refine KO.out.mono ?_; rintro e w4 ⟨rfl, hb4⟩; have Hb4 := ihq hb4; clear hb4))
      go_ret
      exact ⟨rfl, Hb.out.trans (Hb7.out.mono Hb.out.size)⟩
theorem walk (A : Option Addr) (n cp : Nat) (l : List Cmd) (A' : Option Addr) (m cp' : Nat) (l' : List Cmd) (B : Option Addr) (k ck : Nat) (b : List UInt8) (w : World) (hn : l.length = n) (hnc : n <= cp) (hcm : cp <= maxLen) (hs : Ze w A l) (hn' : l'.length = m) (hnc' : m <= cp') (hcm' : cp' <= maxLen) (hs' : Ze w A' l')
  (hk : b.length = k) (hkc : k <= ck) (hck : ck <= maxLen) (hb : Seen w B (zT b)) :
  Calls Tryz.prog 3 #[.slice A n cp, .slice A' m cp', .slice B k ck] w fun e w' => e = .returned (.bool true) /\ Below w.heap.size w w' := by
 by_cases hg : yU l = true \/ yU l' = true \/ 200 < k
 ·exact short A A' B n cp m cp' k ck l l' w hn (Nat.le_trans hnc hcm) hs hn' (Nat.le_trans hnc' hcm') hs' hg
 ·have h1 : yU l = false := by cases h : yU l; rfl; exact absurd (.inl h) hg
  have h2 : yU l' = false := by cases h : yU l'; rfl; exact absurd (.inr (.inl h)) hg
  exact long A A' B n cp m cp' k ck l l' b w hn (Nat.le_trans hnc hcm) hs hn' (Nat.le_trans hnc' hcm') hs' hk hb h1 h2 (by have := fun h => hg (.inr (.inr h)); omega)
theorem own : ownKnob Tryz.prog.godebug = none := by kernel_rfl
set_option maxRecDepth 100000 in
theorem lifted (os : Os) (started : os.Started) (H : Type) (enc : TypeId × Value -> H) :
  ReturnsInHanded {} Tryz.checked os 3 .any (Rows.volumeBytesSpec.pre6 enc Tryz.prog Tryz.f3 Rows.volumeBytesRow.domain false) (Rows.volumeBytesSpec.post enc Tryz.prog Tryz.f3 false true false false) := by
 refine returnsInHanded_of_change (C := Tryz.checked) own started (by kernel_rfl) Tryz.func3
  (ChangeSpec.witness6 (enc := enc) (C := Tryz.checked) false ⟨#[], #[.slice none 0 0, .slice none 0 0, .slice none 0 0], []⟩ 8 (by kernel_rfl) (by kernel_rfl) (by kernel_rfl) (by kernel_rfl)) ?_
 intro W base args ds gs before hval0 hW hcnd _
 have hval : ∀ (j : Nat) t v, Tryz.f3.params[j]? = some t -> args[j]? = some v -> Value.okWide Tryz.prog W .any base t v := hval0
 have hW' := hW
 obtain ⟨p, q, hA0, hV, rfl, hfz, hnd⟩ := hW
 have hA : DataW.TrodAll enc Tryz.prog W 0 (fun _ => true) true Tryz.f3.params.toList args.toList ds p := hA0
 rw [Tryz.params3] at hA hval
 obtain ⟨v0, vs0, d0, ds0, p0, q0, hargs, rfl, rfl, h0, r0⟩ := trodAll_cons hA
 obtain ⟨v1, vs1, d1, ds1, p1, q1, rfl, rfl, rfl, h1, r1⟩ := trodAll_cons r0
 obtain ⟨v2, vs2, d2, ds2, p2, q2, rfl, rfl, rfl, h2, r2⟩ := trodAll_cons r1
 obtain ⟨rfl, rfl, rfl⟩ := trodAll_nil r2
 obtain rfl : args = #[v0, v1, v2] := by cases args; simp_all
 obtain ⟨rfl, rfl⟩ := trodVars_none hV
 obtain ⟨A0, n0, c0, fs0, rfl, hn0, hnc0, hcm0, hf0⟩ := QM Tryz.underlying22 Tryz.underlying39 rfl Tryz.underlying37 rfl rfl ⟨rfl, rfl, rfl, rfl, rfl⟩ ⟨rfl, rfl, rfl, rfl⟩ Tryz.underlying3 (by kernel_rfl) ⟨rfl, rfl, rfl, rfl⟩ ⟨rfl, rfl, rfl, rfl⟩ (by kernel_rfl) (by kernel_rfl) (hval 0 22 v0 rfl rfl) h0
 obtain ⟨A1, n1, c1, fs1, rfl, hn1, hnc1, hcm1, hf1⟩ := QM Tryz.underlying22 Tryz.underlying39 rfl Tryz.underlying37 rfl rfl ⟨rfl, rfl, rfl, rfl, rfl⟩ ⟨rfl, rfl, rfl, rfl⟩ Tryz.underlying3 (by kernel_rfl) ⟨rfl, rfl, rfl, rfl⟩ ⟨rfl, rfl, rfl, rfl⟩ (by kernel_rfl) (by kernel_rfl) (hval 1 22 v1 rfl rfl) h1
 obtain ⟨A2, n2, c2, bs2, rfl, hn2, hnc2, hcm2, hsee2⟩ := open_bytes Tryz.underlying23 Tryz.underlying5 (by kernel_rfl) (hval 2 23 v2 rfl rfl) h2
 refine (walk A0 n0 c0 fs0 A1 n1 c1 fs1 A2 n2 c2 bs2 W hn0 hnc0 hcm0 hf0 hn1 hnc1 hcm1 hf1 hn2 hnc2 hcm2 hsee2).mono fun e W' ⟨he, hg⟩ => ?_
 subst he
 exact ⟨_, rfl, law_post hW' rfl (by kernel_rfl) (by kernel_rfl) (by kernel_rfl) Tryz.underlying4 rfl rfl rfl hg⟩
theorem over : Rows.volumeBytesRow.holds Tryz.pinned (OpenSpec.ofChange Rows.volumeBytesSpec) :=
 OpenClaim.holds_of_wide 3 Tryz.f3 rfl rfl rfl rfl rfl rfl rfl ⟨rfl, rfl, rfl, rfl, rfl⟩ rfl rfl rfl rfl rfl (by kernel_rfl) Tryz.func3 (by kernel_rfl)
  (of_decide_eq_true (by kernel_rfl)) (by unfold Func.isWrapper; first | (rw [if_pos (by decide +kernel)]; kernel_rfl) | (rw [if_neg (by decide +kernel)]; exact ⟨rfl, rfl⟩))
  (fun os started H enc _ => lifted os started H enc)
theorem proved : Rows.VolumeBytesSaid :=
 over
#print axioms proved
end Go.Proofs.YteebkolccbcehaaGreat.VolumeBytes
