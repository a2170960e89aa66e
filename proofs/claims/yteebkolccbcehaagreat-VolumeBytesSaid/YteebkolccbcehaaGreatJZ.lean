/-
  Joined: Byt10, Byt11, Byt12. Conditions: each theorem's own.
-/
import Derived.Test.YteebkolccbcehaaGreatJY
import Derived.Test.YteebkolccbcehaaGreatVolGood

section
set_option linter.all false
namespace Go.Proofs.YteebkolccbcehaaGreat
open Go.ChangeShapes Go.WideShapes Go.ChangeAt Go.RowKit
theorem y8 {x m : Int} (h0 : 0 <= x) (hx : x <= m) (h : x < 9223372036854775808) (rest : List UInt8) : zM (numB x.toNat ++ rest) 0 m = (x.toNat, rest, 0) := by
 unfold zM
 rw [if_neg (by simp), numR_numB (by omega)]
 simp only
 rw [if_neg (by simp), if_neg (by omega), List.drop_left]
theorem xg (x : Int) (l : List Int) : putB (x :: l) = numB x.toNat ++ putB l := rfl
theorem Yc : putB [] = [] := rfl
theorem QG {m : Int} (hm : m < 9223372036854775808) {l : List Int} (rest : List UInt8) (h : ∀ x ∈ l, 0 <= x /\ x <= m) : ∀ k, k <= l.length -> rdL k m (putB l ++ rest) 0 = (l.take k, putB (l.drop k) ++ rest, 0)
 | 0, _ => by simp [rdL]
 | k + 1, hk => by
  have ih := QG hm rest h k (by omega)
  obtain ⟨x, hx⟩ : ∃ x, l[k]? = some x := ⟨_, List.getElem?_eq_getElem (by omega)⟩
  obtain ⟨h1, h2⟩ := List.getElem?_eq_some_iff.1 hx
  have hxi := h x (List.mem_of_getElem? hx)
  have hd : l.drop k = x :: l.drop (k + 1) := by rw [<- h2]; exact List.drop_eq_getElem_cons h1
  have ht : l.take (k + 1) = l.take k ++ [x] := by rw [List.take_succ_eq_append_getElem h1, h2]
  have hr := y8 hxi.1 hxi.2 (by omega) (putB (l.drop (k + 1)) ++ rest)
  unfold rdL
  rw [ih]
  simp only
  rw [hd, xg, List.append_assoc, hr, ht]
  simp only [Int.toNat_of_nonneg hxi.1]
theorem rdL_put {m : Int} (hm : m < 9223372036854775808) {l : List Int} (rest : List UInt8) (h : ∀ x ∈ l, 0 <= x /\ x <= m) : rdL l.length m (putB l ++ rest) 0 = (l, rest, 0) := by
 rw [QG hm rest h _ (Nat.le_refl _), List.take_length, List.drop_length]
 rfl
theorem XT {l : List Int} (rest : List UInt8) (h : ∀ x ∈ l, 0 <= x /\ x <= 15) (h4 : l.length <= 4) : xn (putB (Z7 l) ++ rest) 0 = (l, rest, 0) := by
 unfold xn Z7
 rw [xg, List.append_assoc, y8 (x := (l.length : Int)) (by omega) (by omega) (by omega)]
 simp only [Int.toNat_natCast]
 exact rdL_put (by omega) rest h
structure CkB (vo last : Int) (k : Chk) : Prop where
 id : last <= k.id /\ k.id <= last + zH
 vo : k.vo = vo
 ep : 0 <= k.ep /\ k.ep <= zH
 ms : ∀ x ∈ k.ms, 0 <= x /\ x <= 15
 js : ∀ x ∈ k.js, 0 <= x /\ x <= 15
 ml : k.ms.length <= 4
 jl : k.js.length <= 4
theorem rdCk_put {vo last : Int} {k : Chk} (h : CkB vo last k) (rest : List UInt8) : rdCk vo last (putB (chkN last k) ++ rest) 0 = (k, rest, 0) := by
 have hid := h.id
 have hep := h.ep
 unfold zH at hid hep
 unfold rdCk chkN
 rw [zI, zI, xg, xg, Yc]
 simp only [List.append_assoc, List.append_nil, List.nil_append]
 unfold zH
 rw [y8 (by omega) (by omega) (by omega)]
 simp only
 rw [y8 (by omega) (by omega) (by omega)]
 simp only
 rw [XT _ h.ms h.ml]
 simp only
 rw [XT _ h.js h.jl]
 obtain ⟨kid, kvo, kep, kms, kjs⟩ := k
 have hv := h.vo
 simp only at hid hep hv ⊢
 subst hv
 rw [Int.toNat_of_nonneg (by omega), Int.toNat_of_nonneg hep.1]
 congr 2
 omega
def CksB (vo : Int) (l : List Chk) : Prop := ∀ (j : Nat) (k : Chk), l[j]? = some k -> CkB vo (yT 0 (l.take j)) k
theorem Xu {vo : Int} {l : List Chk} (h : CksB vo l) (rest : List UInt8) : ∀ k, k <= l.length -> ∃ t, yO vo k (putB (yM 0 l) ++ rest) 0 = (l.take k, putB t ++ rest, 0) /\ yM 0 l = yM 0 (l.take k) ++ t
 | 0, _ => ⟨yM 0 l, by simp [yO], by simp [yM]⟩
 | k + 1, hk => by
  obtain ⟨t, ih, et⟩ := Xu h rest k (by omega)
  obtain ⟨x, hx⟩ : ∃ x, l[k]? = some x := ⟨_, List.getElem?_eq_getElem (by omega)⟩
  obtain ⟨h1, h2⟩ := List.getElem?_eq_some_iff.1 hx
  have ht : l.take (k + 1) = l.take k ++ [x] := by rw [List.take_succ_eq_append_getElem h1, h2]
  have hd : l.drop k = x :: l.drop (k + 1) := by rw [<- h2]; exact List.drop_eq_getElem_cons h1
  have ea : ∀ (last : Int) (a b : List Chk), yM last (a ++ b) = yM last a ++ yM (yT last a) b := by
   intro last a
   induction a generalizing last with
   | nil => intro b; rfl
   | cons c a ih => intro b; simp only [List.cons_append, yM, yT, ih, List.append_assoc]
  have e1 : yM 0 l = yM 0 (l.take k) ++ (chkN (yT 0 (l.take k)) x ++ yM x.id (l.drop (k + 1))) := by
   have := ea 0 (l.take k) (l.drop k)
   rw [List.take_append_drop] at this
   rw [this, hd]
   rfl
  have e2 : t = chkN (yT 0 (l.take k)) x ++ yM x.id (l.drop (k + 1)) := List.append_cancel_left (et.symm.trans e1)
  have hr := rdCk_put (h k x hx) (putB (yM x.id (l.drop (k + 1))) ++ rest)
  refine ⟨yM x.id (l.drop (k + 1)), ?_, ?_⟩
  ·unfold yO
   rw [ih]
   simp only
   rw [e2, zI, List.append_assoc, hr, ht]
  ·rw [ht, ea, e1]
   simp only [yM, List.append_nil, List.append_assoc]
theorem rdCks_put {vo : Int} {l : List Chk} (h : CksB vo l) (rest : List UInt8) : yO vo l.length (putB (yM 0 l) ++ rest) 0 = (l, rest, 0) := by
 obtain ⟨t, h1, h2⟩ := Xu h rest l.length (Nat.le_refl _)
 rw [List.take_length] at h1 h2
 have e9 : yM 0 l ++ t = yM 0 l ++ [] := by rw [List.append_nil]; exact h2.symm
 have e : t = [] := List.append_cancel_left e9
 rw [h1, e]
 rfl
theorem YX {x : Int} (h0 : 0 <= x) (h : x < 9223372036854775808) (rest : List UInt8) : rdM (numB x.toNat ++ rest) 0 = (x.toNat, rest, 0) := y8 h0 (by omega) h rest
theorem rdPol_put {p : Pol} (h : InP p) (h0 : 0 <= p.re /\ 0 <= p.we /\ 0 <= p.li /\ 0 <= p.bu) (rest : List UInt8) : yx (putB (xP p) ++ rest) 0 = ⟨p, rest, 0⟩ := by
 unfold InP In64 at h
 unfold yx xP
 rw [xg, xg, xg, xg, Yc]
 simp only [List.append_assoc, List.nil_append, List.append_nil]
 rw [YX h0.1 (by omega)]; simp only
 rw [YX h0.2.1 (by omega)]; simp only
 rw [YX h0.2.2.1 (by omega)]; simp only
 rw [YX h0.2.2.2 (by omega)]
 obtain ⟨re, we, li, bu⟩ := p
 simp only at h0 ⊢
 rw [Int.toNat_of_nonneg h0.1, Int.toNat_of_nonneg h0.2.1, Int.toNat_of_nonneg h0.2.2.1, Int.toNat_of_nonneg h0.2.2.2]
structure VolB (vo : Int) (v : Vol) : Prop where
 bl : 0 <= v.bl /\ v.bl <= 512
 p : InP v.p
 p0 : 0 <= v.p.re /\ 0 <= v.p.we /\ 0 <= v.p.li /\ 0 <= v.p.bu
 ver : 0 <= v.ver /\ v.ver <= zH
 kl : (v.ks.length : Int) = zx v.bl
 ks : CksB vo v.ks
theorem rdVol_put {vo : Int} {v : Vol} (h : VolB vo v) (rest : List UInt8) : xH vo (putB (volN v) ++ rest) 0 = (v, rest, 0) := by
 have hb := h.bl
 have hv := h.ver
 unfold zH at hv
 unfold xH volN
 rw [zI, zI, zI]
 simp only [List.append_assoc]
 rw [show putB [v.bl] = numB v.bl.toNat from xq _, y8 hb.1 hb.2 (by omega)]
 simp only
 rw [rdPol_put h.p h.p0]
 simp only
 rw [show putB [v.ver] = numB v.ver.toNat from xq _]
 unfold zH
 rw [y8 hv.1 hv.2 (by omega)]
 simp only
 rw [Int.toNat_of_nonneg hb.1, <- h.kl, Int.toNat_natCast, rdCks_put h.ks, Int.toNat_of_nonneg hv.1]
end Go.Proofs.YteebkolccbcehaaGreat
end

section
set_option linter.all false
namespace Go.Proofs.YteebkolccbcehaaGreat
open Go.ChangeShapes Go.WideShapes Go.ChangeAt Go.RowKit
def setPk (f : Nat -> Int) (i : Nat) (x : Int) : Nat -> Int := fun j => if (j : Int) = ((i : Nat) : Int) then x else f j
def pkT (pk f : Nat -> Int) (l : List Nat) : Nat -> Int := l.foldl (fun f i => setPk f i (pk i)) f
def vsT (s s0 : St) (l : List Nat) : St := l.foldl (fun r i => setV r i (s.vs i)) s0
theorem pkT_snoc (pk f : Nat -> Int) (l : List Nat) (i : Nat) : pkT pk f (l ++ [i]) = setPk (pkT pk f l) i (pk i) := by simp [pkT]
theorem vsT_snoc (s s0 : St) (l : List Nat) (i : Nat) : vsT s s0 (l ++ [i]) = setV (vsT s s0 l) i (s.vs i) := by simp [vsT]
theorem YW {pk : Nat -> Int} {L : List Nat} (s0 : St) (rest : List UInt8) (h : ∀ i ∈ L, i <= 15 /\ 0 <= pk i /\ pk i <= 9223372036854775807) : ∀ k, k <= L.length ->
  yQ xE k ⟨s0, putB (L.flatMap (loN pk)) ++ rest, 0⟩ = ⟨{ s0 with pk := pkT pk s0.pk (L.take k) }, putB ((L.drop k).flatMap (loN pk)) ++ rest, 0⟩
 | 0, _ => by simp [yQ, pkT]
 | k + 1, hk => by
  have ih := YW s0 rest h k (by omega)
  obtain ⟨x, hx⟩ : ∃ x, L[k]? = some x := ⟨_, List.getElem?_eq_getElem (by omega)⟩
  obtain ⟨h1, h2⟩ := List.getElem?_eq_some_iff.1 hx
  obtain ⟨hx15, hp0, hp1⟩ := h x (List.mem_of_getElem? hx)
  have hd : L.drop k = x :: L.drop (k + 1) := by rw [<- h2]; exact List.drop_eq_getElem_cons h1
  have ht : L.take (k + 1) = L.take k ++ [x] := by rw [List.take_succ_eq_append_getElem h1, h2]
  unfold yQ
  rw [ih, hd, List.flatMap_cons, ht, pkT_snoc]
  unfold xE loN
  rw [zI, xg, xg, Yc]
  simp only [List.append_assoc, List.append_nil, List.nil_append]
  rw [y8 (x := (x : Int)) (by omega) (by omega) (by omega)]
  simp only
  rw [YX hp0 (by omega)]
  simp only [Int.toNat_natCast, Int.toNat_of_nonneg hp0]
  rfl
theorem YV {s : St} {L : List Nat} (s0 : St) (rest : List UInt8) (h : ∀ i ∈ L, i <= 63 /\ VolB (i : Int) (s.vs i)) : ∀ k, k <= L.length ->
  yQ xy k ⟨s0, putB (L.flatMap (voN s)) ++ rest, 0⟩ = ⟨vsT s s0 (L.take k), putB ((L.drop k).flatMap (voN s)) ++ rest, 0⟩
 | 0, _ => by simp [yQ, vsT]
 | k + 1, hk => by
  have ih := YV s0 rest h k (by omega)
  obtain ⟨x, hx⟩ : ∃ x, L[k]? = some x := ⟨_, List.getElem?_eq_getElem (by omega)⟩
  obtain ⟨h1, h2⟩ := List.getElem?_eq_some_iff.1 hx
  obtain ⟨hx63, hv⟩ := h x (List.mem_of_getElem? hx)
  have hd : L.drop k = x :: L.drop (k + 1) := by rw [<- h2]; exact List.drop_eq_getElem_cons h1
  have ht : L.take (k + 1) = L.take k ++ [x] := by rw [List.take_succ_eq_append_getElem h1, h2]
  unfold yQ
  rw [ih, hd, List.flatMap_cons, ht, vsT_snoc]
  unfold xy voN
  rw [zI, xg]
  simp only [List.append_assoc]
  rw [y8 (x := (x : Int)) (by omega) (by omega) (by omega)]
  simp only [Int.toNat_natCast]
  rw [rdVol_put hv]
structure StB (s : St) : Prop where
 md : 0 <= s.md /\ s.md <= zH
 pk : ∀ i : Nat, i < 16 -> 0 <= s.pk i /\ s.pk i <= 9223372036854775807
 vs : ∀ i : Nat, i < 64 -> VolB (i : Int) (s.vs i)
theorem loadS_put {s : St} (h : StB s) : Zt (y6 s) = ⟨vsT s { st0 with md := s.md, pk := pkT s.pk (fun _ => 0) (zm s.pk) } (yp s 64), [], 0⟩ := by
 have hm := h.md
 unfold zH at hm
 have h1 : (zm s.pk).length <= 16 := xM s.pk 16
 have h2 := Zq s 64
 have e : y6 s = numB s.md.toNat ++ (numB ((zm s.pk).length : Int).toNat ++ (putB ((zm s.pk).flatMap (loN s.pk)) ++ (numB ((yp s 64).length : Int).toNat ++ (putB ((yp s 64).flatMap (voN s)) ++ [])))) := by
  unfold y6
  rw [XP]
  unfold stB stA
  rw [List.take_length, List.take_length]
  simp only [zI, xq, List.append_assoc, List.append_nil]
 rw [e]
 unfold Zt
 unfold zH
 rw [y8 hm.1 hm.2 (by omega)]
 simp only
 rw [y8 (x := ((zm s.pk).length : Int)) (by omega) (by omega) (by omega)]
 simp only [Int.toNat_natCast]
 rw [YW _ _ (fun i hi => by obtain ⟨h3, _⟩ := XJ hi; exact ⟨by omega, h.pk i h3⟩) _ (Nat.le_refl _), List.take_length, List.drop_length]
 simp only [List.flatMap_nil, Yc, List.nil_append]
 rw [show numB (yp s 64).length = numB ((yp s 64).length : Int).toNat from by rw [Int.toNat_natCast], y8 (x := ((yp s 64).length : Int)) (by omega) (by omega) (by omega)]
 simp only [Int.toNat_natCast]
 rw [YV _ _ (fun i hi => by obtain ⟨h3, _⟩ := xW hi; exact ⟨by omega, h.vs i h3⟩) _ (Nat.le_refl _), List.take_length, List.drop_length]
 simp only [List.flatMap_nil, Yc, List.nil_append, Int.toNat_of_nonneg hm.1]
 rfl
end Go.Proofs.YteebkolccbcehaaGreat
end

section
set_option linter.all false
namespace Go.Proofs.YteebkolccbcehaaGreat
structure Tid (s : St) : Prop where
 pk : ∀ i, 16 <= i -> s.pk i = 0
 vs : ∀ i, 64 <= i -> s.vs i = vol0
 ep : ∀ i, ∀ k ∈ (s.vs i).ks, (k.js.length : Int) < k.ep
theorem tid0 : Tid st0 := ⟨fun _ _ => rfl, fun _ _ => rfl, fun i k hk => by cases hk⟩
theorem Tid.setV {s : St} (h : Tid s) {i : Nat} {v : Vol} (hi : i < 64) (hv : ∀ k ∈ v.ks, (k.js.length : Int) < k.ep) : Tid (setV s i v) := by
 refine ⟨h.pk, fun j hj => ?_, fun j k hk => ?_⟩
 ·rw [zA (by omega)]; exact h.vs j hj
 ·by_cases e : j = i
  ·subst e; rw [zE] at hk; exact hv k hk
  ·rw [zA e] at hk; exact h.ep j k hk
theorem fillK_ep (ids : List Nat) (vo : Int) (copies : Nat) (md : Int) (hv : List Int) : ∀ n, ∀ k ∈ yo ids vo copies md hv n, (k.js.length : Int) < k.ep
 | 0, k, hk => by cases hk
 | n + 1, k, hk => by
  unfold yo at hk
  rw [List.mem_append] at hk
  rcases hk with hk | hk
  ·exact fillK_ep ids vo copies md hv n k hk
  ·simp only [List.mem_singleton] at hk
   subst hk
   simp
theorem Tid.fill {s : St} (h : Tid s) {i : Nat} (hi : i < 64) (copies : Nat) : Tid (xz s i copies) := by
 unfold xz xe
 have := h.setV (i := i) (v := { s.vs i with ks := (s.vs i).ks ++ yo (zm s.pk) (i : Int) copies s.md (z8 (zX s 64)) ((zx (s.vs i).bl).toNat - (s.vs i).ks.length) }) hi (fun k hk => by
  simp only [List.mem_append] at hk
  rcases hk with hk | hk
  ·exact h.ep i k hk
  ·exact fillK_ep _ _ _ _ _ _ k hk)
 exact ⟨this.pk, this.vs, this.ep⟩
theorem chunkF_ep {c : Cmd} {k k' : Chk} (h : (k.js.length : Int) < k.ep) (hf : xF c k = .inl k') : k'.ep = k.ep /\ (k'.js.length : Int) < k'.ep + 1 := by
 unfold xF at hf
 split at hf
 ·split at hf
  ·cases hf
  split at hf
  ·cases hf
  ·injection hf with hf
   subst hf
   have := ZA (l := k.js) (x := c.c)
   exact ⟨rfl, by show ((zl k.js c.c).length : Int) < k.ep + 1; omega⟩
 split at hf
 ·split at hf
  ·cases hf
  split at hf
  ·cases hf
  ·injection hf with hf
   subst hf
   exact ⟨rfl, by show ((k.js ++ [c.c]).length : Int) < k.ep + 1; rw [List.length_append, List.length_singleton]; omega⟩
 split at hf
 ·injection hf with hf
  subst hf
  have := ZA (l := k.js) (x := c.c)
  exact ⟨rfl, by show ((zl k.js c.c).length : Int) < k.ep + 1; omega⟩
 ·cases hf
theorem Tid.renew {s : St} (h : Tid s) {i j : Nat} {k' : Chk} (hi : i < 64) (hk : (k'.js.length : Int) < k'.ep + 1) : Tid (YE s i j k') := by
 unfold YE
 refine h.setV hi fun k hkm => ?_
 rcases List.mem_or_eq_of_mem_set hkm with hm | rfl
 ·exact h.ep i k hm
 ·exact hk
theorem doS_tid {s : St} {c : Cmd} (h : Tid s) : Tid (doS s c).1 := by
 unfold doS
 split
 ·split
  ·rename_i hh
   simp only [Bool.and_eq_true, decide_eq_true_eq] at hh
   refine ⟨fun i hi => ?_, h.vs, h.ep⟩
   show (if (i : Int) = c.a then c.b else s.pk i) = 0
   rw [if_neg (by omega)]
   exact h.pk i hi
  ·exact h
 split
 ·split
  ·exact h
  rename_i ht
  simp only [Bool.not_eq_true', Bool.not_eq_false, Bool.and_eq_true, decide_eq_true_eq] at ht
  split
  ·exact h
  split
  ·exact h
  ·have hi : c.a.toNat < 64 := by omega
   exact (h.setV hi (fun k hk => by cases hk)).fill hi _
 split
 ·split
  ·rename_i hv
   unfold yB at hv
   simp only [Bool.and_eq_true, decide_eq_true_eq] at hv
   exact h.setV (by omega) (fun k hk => by cases hk)
  ·exact h
 split
 ·split
  ·exact h
  split
  ·exact h
  ·rename_i hv
   have hv' : yB s c.a = true := by simpa using hv
   unfold yB at hv'
   simp only [Bool.and_eq_true, decide_eq_true_eq] at hv'
   have hi : c.a.toNat < 64 := by omega
   exact (h.setV (v := { s.vs c.a.toNat with bl := c.b, ks := (s.vs c.a.toNat).ks.take (zx c.b).toNat }) hi (fun k hk => h.ep _ k (List.mem_of_mem_take hk))).fill hi _
 split
 ·split
  ·exact h
  split
  ·exact h
  ·rename_i hv
   have hv' : yB s c.a = true := by simpa using hv
   unfold yB at hv'
   simp only [Bool.and_eq_true, decide_eq_true_eq] at hv'
   exact h.setV (by omega) (fun k hk => h.ep _ k hk)
 ·unfold xK
  split
  ·exact h
  split
  ·exact h
  ·rename_i i j k hf
   obtain ⟨hi, hj, _⟩ := xp hf
   split
   ·exact h
   split
   ·exact h
   ·rename_i k' hk'
    obtain ⟨e1, e2⟩ := chunkF_ep (h.ep i k (List.mem_of_getElem? hj)) hk'
    exact h.renew hi e2
theorem applyS_tid {s : St} {c : Cmd} (h : Tid s) : Tid (yR s c).1 := by
 unfold yR
 split
 ·split
  ·exact h
  split
  ·exact doS_tid h
  ·exact h
 ·exact h
end Go.Proofs.YteebkolccbcehaaGreat
end
