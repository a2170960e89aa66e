/-
  What holds of every state that commands make (GoodD; GoodS: and what is promised can be kept), kept by doS and applyS. Plain lists and integers. Conditions: a right state, a command of numbers that an int holds.
-/
import Derived.Test.YteebkolccbcehaaGreatJK
set_option linter.all false
namespace Go.Proofs.YteebkolccbcehaaGreat
open Go.ChangeShapes Go.WideShapes Go.ChangeAt Go.RowKit
def srvP (pk : Nat -> Int) (x : Int) : Prop := 0 <= x /\ x <= 15 /\ 0 < pk x.toNat
structure YC (pk : Nat -> Int) (md n : Int) (i : Nat) (k : Chk) : Prop where
 id : 1 <= k.id /\ k.id <= md
 vo : k.vo = i
 ep : 1 <= k.ep /\ k.ep <= n
 ne : k.ms ≠ []
 nd : (k.ms ++ k.js).Nodup
 len : k.ms.length + k.js.length <= 4
 srv : ∀ x ∈ k.ms ++ k.js, srvP pk x
structure Yk (pk : Nat -> Int) (md n : Int) (i : Nat) (v : Vol) : Prop where
 zero : v.bl = 0 -> v = vol0
 bl : 0 <= v.bl /\ v.bl <= 512
 p : v.bl ≠ 0 -> yc v.p = true
 ver : v.bl ≠ 0 -> 1 <= v.ver /\ v.ver <= n
 kl : (v.ks.length : Int) = zx v.bl
 ks : ∀ k ∈ v.ks, YC pk md n i k
structure yy (n : Int) (s : St) : Prop where
 pk : ∀ i, i < 16 -> 0 <= s.pk i /\ s.pk i <= 64
 md : 0 <= s.md /\ s.md <= 64 * n
 vs : ∀ i, i < 64 -> Yk s.pk s.md n i (s.vs i)
 ord : OrdS s
 adm : True := trivial
structure xS (n : Int) (s : St) : Prop where
 d : yy n s
 adm : admS s = true
theorem YC.mono {pk pk' : Nat -> Int} {md md' n n' : Int} {i : Nat} {k : Chk} (h : YC pk md n i k) (hp : ∀ x, srvP pk x -> srvP pk' x) (hm : md <= md') (hn : n <= n') : YC pk' md' n' i k :=
 ⟨⟨h.id.1, by have := h.id.2; omega⟩, h.vo, ⟨h.ep.1, by have := h.ep.2; omega⟩, h.ne, h.nd, h.len, fun x hx => hp x (h.srv x hx)⟩
theorem Yk.mono {pk pk' : Nat -> Int} {md md' n n' : Int} {i : Nat} {v : Vol} (h : Yk pk md n i v) (hp : ∀ x, srvP pk x -> srvP pk' x) (hm : md <= md') (hn : n <= n') : Yk pk' md' n' i v :=
 ⟨h.zero, h.bl, h.p, fun e => ⟨(h.ver e).1, by have := (h.ver e).2; omega⟩, h.kl, fun k hk => (h.ks k hk).mono hp hm hn⟩
theorem rightP_in {p : Pol} (h : yc p = true) : InP p := by
 obtain ⟨h1, h2, h3, h4, _⟩ := (YD p).1 h
 unfold InP In64
 omega
theorem Yk.fit {pk : Nat -> Int} {md n : Int} {i : Nat} {v : Vol} (h : Yk pk md n i v) (hi : i < 64) (hn : n <= 1000000000) (hmd : md <= 64000000000) : Xo v := by
 refine ⟨h.bl, ?_, ?_, ?_, fun k hk => ?_⟩
 ·by_cases hb : v.bl = 0
  ·rw [h.zero hb]; unfold vol0 pol0 InP In64; simp
  ·exact rightP_in (h.p hb)
 ·by_cases hb : v.bl = 0
  ·rw [h.zero hb]; unfold vol0; simp
  ·have := h.ver hb; omega
 ·have := h.kl; have := h.bl; unfold zx at *; omega
 ·have hg := h.ks k hk
  have hl := hg.len
  refine ⟨by have := hg.id; omega, by have := hg.vo; omega, by have := hg.ep; omega, by omega, by omega, fun x hx => ?_, fun x hx => ?_⟩
  ·have := hg.srv x (List.mem_append_left _ hx); unfold srvP at this; omega
  ·have := hg.srv x (List.mem_append_right _ hx); unfold srvP at this; omega
theorem yy.fit {n : Int} {s : St} (h : yy n s) (hn : n <= 1000000000) : yF s :=
 ⟨fun i hi => by have := h.pk i hi; omega, fun i hi => (h.vs i hi).fit hi hn (by have := h.md; omega), by have := h.md; omega⟩
theorem yy.ne {n : Int} {s : St} (h : yy n s) : ∀ i, i < 64 -> (s.vs i).bl ≠ 0 -> (s.vs i).ks ≠ [] := fun i hi hb e => by
 have h1 := (h.vs i hi).kl
 have h2 := (h.vs i hi).bl
 rw [e] at h1
 unfold zx at h1
 simp at h1
 omega
theorem yy.mono {n n' : Int} {s : St} (h : yy n s) (hn : n <= n') : yy n' s := ⟨h.pk, by have := h.md; omega, fun i hi => (h.vs i hi).mono (fun _ e => e) (Int.le_refl _) hn, h.ord, trivial⟩
theorem good0 : xS 0 st0 := by
 refine ⟨⟨fun i _ => by simp [st0], by simp [st0], fun i _ => ⟨fun _ => rfl, by simp [st0, vol0], fun e => absurd rfl e, fun e => absurd rfl e, by simp [st0, vol0, zx], fun k hk => by cases hk⟩, ⟨fun i _ => List.Pairwise.nil, fun i i' _ _ k hk => by cases hk⟩, trivial⟩, ?_⟩
 have : zm st0.pk = [] := by unfold zm; rw [List.filter_eq_nil_iff]; intro a _; simp [st0]
 unfold admS
 rw [this]
 rfl
theorem OrdS.setV {s : St} (h : OrdS s) {i : Nat} {v : Vol} (hr : Zl v.ks) (hs : ∀ k ∈ v.ks, (∃ k0 ∈ (s.vs i).ks, k0.id = k.id) \/ ∀ j, j < 64 -> ∀ k' ∈ (s.vs j).ks, k'.id ≠ k.id) (hi : i < 64) : OrdS (setV s i v) := by
 refine ⟨fun j hj => ?_, fun a b ha hb k hk k' hk' e => ?_⟩
 ·by_cases e : j = i
  ·subst e; rw [zE]; exact hr
  ·rw [zA e]; exact h.rise j hj
 ·by_cases ea : a = i
  ·by_cases eb : b = i
   ·rw [ea, eb]
   ·subst ea
    rw [zE] at hk
    rw [zA eb] at hk'
    rcases hs k hk with ⟨k0, h0, e0⟩ | hno
    ·exact h.one a b ha hb k0 h0 k' hk' (e0.trans e)
    ·exact absurd e.symm (hno b hb k' hk')
  ·by_cases eb : b = i
   ·subst eb
    rw [zE] at hk'
    rw [zA ea] at hk
    rcases hs k' hk' with ⟨k0, h0, e0⟩ | hno
    ·exact h.one a b ha hb k hk k0 h0 (e.trans e0.symm)
    ·exact absurd e (hno a ha k hk)
   ·rw [zA ea] at hk
    rw [zA eb] at hk'
    exact h.one a b ha hb k hk k' hk' e
theorem yy.setV {n : Int} {s : St} (h : yy n s) {i : Nat} {v : Vol} (hi : i < 64) (hv : Yk s.pk s.md (n + 1) i v) (ho : OrdS (setV s i v)) : yy (n + 1) (setV s i v) := by
 refine ⟨h.pk, by have := h.md; show 0 <= s.md /\ s.md <= 64 * (n + 1); omega, fun j hj => ?_, ho, trivial⟩
 by_cases e : j = i
 ·subst e; rw [zE]; exact hv
 ·rw [zA e]; exact (h.vs j hj).mono (fun _ e => e) (Int.le_refl _) (by omega)
theorem Xw {pk : Nat -> Int} {x : Nat} (h : x ∈ zm pk) : x < 16 /\ 0 < pk x := by
 have := List.mem_filter.1 h
 exact ⟨List.mem_range.1 this.1, by simpa using this.2⟩
theorem Qv (pk : Nat -> Int) : (zm pk).Nodup := List.Nodup.sublist List.filter_sublist List.nodup_range
theorem servers_mem {pk : Nat -> Int} {x : Int} (h : srvP pk x) : x.toNat ∈ zm pk := by
 unfold srvP at h
 unfold zm
 rw [List.mem_filter, List.mem_range]
 exact ⟨by omega, by simpa using h.2.2⟩
theorem fewF_sub (f : Nat -> Nat) (ids : List Nat) (n : Nat) : ∀ x ∈ fewF f ids n, x ∈ ids := fun x hx => by
 have := List.mem_of_mem_take hx
 rwa [List.mem_mergeSort] at this
theorem Qa (f : Nat -> Nat) {ids : List Nat} (h : ids.Nodup) (n : Nat) : (fewF f ids n).Nodup :=
 List.Nodup.sublist (List.take_sublist _ _) ((List.mergeSort_perm ids _).nodup_iff.2 h)
theorem fewF_len (f : Nat -> Nat) (ids : List Nat) (n : Nat) : (fewF f ids n).length = min n ids.length := by
 unfold fewF
 rw [List.length_take, List.length_mergeSort]
theorem QA {l : List Nat} (h : l.Nodup) : (toI l).Nodup := by
 unfold toI
 rw [List.Nodup, List.pairwise_map]
 exact h.imp fun h e => h (by omega)
theorem newK_good {pk : Nat -> Int} {hv : Nat -> Nat} {copies : Nat} {id n : Int} {i : Nat} {md : Int} (h1 : 1 <= copies) (h4 : copies <= 4) (hs : zm pk ≠ []) (hid : 1 <= id /\ id <= md) (hn : 1 <= n) :
  YC pk md n i ⟨id, i, 1, toI (fewF hv (zm pk) copies), []⟩ := by
 have hl := fewF_len hv (zm pk) copies
 have hs1 : 0 < (zm pk).length := List.length_pos_iff.2 hs
 refine ⟨hid, rfl, ⟨Int.le_refl _, hn⟩, fun e => ?_, ?_, ?_, fun x hx => ?_⟩
 ·have : (toI (fewF hv (zm pk) copies)).length = 0 := by
   show (toI _).length = 0
   rw [show toI (fewF hv (zm pk) copies) = [] from e]
   rfl
  rw [xI, hl] at this
  omega
 ·show (toI _ ++ []).Nodup
  rw [List.append_nil]
  exact QA (Qa hv (Qv pk) copies)
 ·show (toI _).length + 0 <= 4
  rw [xI, hl]
  omega
 ·have hx' : x ∈ toI (fewF hv (zm pk) copies) := by simpa using hx
  unfold toI at hx'
  rw [List.mem_map] at hx'
  obtain ⟨y, hy, rfl⟩ := hx'
  have := Xw (fewF_sub _ _ _ y hy)
  unfold srvP
  exact ⟨by omega, by omega, by simpa using this.2⟩
theorem X8 {pk : Nat -> Int} {hv : List Int} {copies i : Nat} {md n : Int} (h1 : 1 <= copies) (h4 : copies <= 4) (hs : zm pk ≠ []) (hm : 0 <= md) (hn : 1 <= n) : ∀ q : Nat,
  (∀ k ∈ yo (zm pk) (i : Int) copies md hv q, YC pk (md + q) n i k /\ md < k.id) /\ Zl (yo (zm pk) (i : Int) copies md hv q)
 | 0 => ⟨fun k hk => (by cases hk), List.Pairwise.nil⟩
 | q + 1 => by
  obtain ⟨a, b⟩ := X8 (hv := hv) (i := i) h1 h4 hs hm hn q
  refine ⟨fun k hk => ?_, ?_⟩
  ·rw [yo, List.mem_append, List.mem_singleton] at hk
   rcases hk with hk | rfl
   ·exact ⟨(a k hk).1.mono (fun _ e => e) (by omega) (Int.le_refl _), (a k hk).2⟩
   ·exact ⟨newK_good h1 h4 hs (by omega) hn, by show md < md + q + 1; omega⟩
  ·rw [yo]
   refine List.pairwise_append.2 ⟨b, List.pairwise_singleton _ _, fun x hx y hy => ?_⟩
   rw [List.mem_singleton] at hy
   subst hy
   have := (a x hx).1.id.2
   show x.id < md + q + 1
   omega
theorem QR {n : Int} {s : St} {i copies : Nat} {v : Vol} (h : yy n s) (hi : i < 64) (h1 : 1 <= copies) (h4 : copies <= 4) (hs : zm s.pk ≠ []) (hn0 : 0 <= n) (hbl : 1 <= v.bl /\ v.bl <= 512) (hp : yc v.p = true) (hver : 1 <= v.ver /\ v.ver <= n + 1)
  (hkl : (v.ks.length : Int) <= zx v.bl) (hk : ∀ k ∈ v.ks, k ∈ (s.vs i).ks) (hr : Zl v.ks) : yy (n + 1) (xz (setV s i v) i copies) /\ (xz (setV s i v) i copies).md <= s.md + zx v.bl := by
 obtain ⟨q, hq⟩ : ∃ q, (zx v.bl).toNat - v.ks.length = q := ⟨_, rfl⟩
 have hcnt : 1 <= zx v.bl /\ zx v.bl <= 64 := by unfold zx; omega
 have hm := h.md
 obtain ⟨hv, hhv⟩ : ∃ hv, z8 (zX (setV s i v) 64) = hv := ⟨_, rfl⟩
 obtain ⟨fg, fr⟩ := X8 (hv := hv) (i := i) (md := s.md) (n := n + 1) h1 h4 hs hm.1 (by omega) q
 have hfl := Yt (zm s.pk) (i : Int) copies s.md hv q
 obtain ⟨F, hF⟩ : ∃ F, yo (zm s.pk) (i : Int) copies s.md hv q = F := ⟨_, rfl⟩
 rw [hF] at fg fr hfl
 have e : xz (setV s i v) i copies = { setV s i { v with ks := v.ks ++ F } with md := s.md + q } := by
  unfold xz xe
  rw [QE]
  simp only [zE]
  rw [hq, hhv]
  show ({ pk := s.pk, vs := _, md := _ } : St) = _
  rw [show yo (zm (setV s i v).pk) (i : Int) copies (setV s i v).md hv q = F from hF]
  rfl
 rw [e]
 have ho : OrdS (setV s i { v with ks := v.ks ++ F }) := by
  refine h.ord.setV (List.pairwise_append.2 ⟨hr, fr, fun x hx y hy => ?_⟩) (fun k hk' => ?_) hi
  ·have h1 := ((h.vs i hi).ks x (hk x hx)).id.2
   have h2 := (fg y hy).2
   omega
  ·rcases List.mem_append.1 hk' with h2 | h2
   ·exact .inl ⟨k, hk k h2, rfl⟩
   ·refine .inr fun j hj k' hk'' e => ?_
    have h3 := ((h.vs j hj).ks k' hk'').id.2
    have h4 := (fg k h2).2
    omega
 refine ⟨⟨h.pk, ?_, fun j hj => ?_, ⟨ho.rise, ho.one⟩, trivial⟩, ?_⟩
 ·show 0 <= s.md + (q : Int) /\ s.md + (q : Int) <= 64 * (n + 1)
  omega
 ·by_cases ej : j = i
  ·subst ej
   show Yk s.pk (s.md + q) (n + 1) j ((setV s j { v with ks := v.ks ++ F }).vs j)
   rw [zE]
   refine ⟨fun e => ?_, by show 0 <= v.bl /\ v.bl <= 512; omega, fun _ => hp, fun _ => hver, ?_, fun k hk' => ?_⟩
   ·exact absurd (show v.bl = 0 from e) (by omega)
   ·show ((v.ks ++ F).length : Int) = zx v.bl
    rw [List.length_append, hfl]
    omega
   ·rcases List.mem_append.1 hk' with h2 | h2
    ·exact ((h.vs j hi).ks k (hk k h2)).mono (fun _ e => e) (by omega) (by omega)
    ·exact (fg k h2).1
  ·show Yk s.pk (s.md + q) (n + 1) j ((setV s i { v with ks := v.ks ++ F }).vs j)
   rw [zA ej]
   exact (h.vs j hj).mono (fun _ e => e) (by omega) (by omega)
 ·show s.md + (q : Int) <= s.md + zx v.bl
  omega
theorem ZG {l : List Int} {x : Int} (h : l.Nodup) : (zl l x).Nodup := List.Nodup.sublist List.filter_sublist h
theorem xm {l : List Int} {x y : Int} : y ∈ zl l x ↔ y ∈ l /\ y ≠ x := by
 unfold zl
 rw [List.mem_filter]
 simp
theorem ZA {l : List Int} {x : Int} : (zl l x).length <= l.length := List.length_filter_le _ _
theorem without_lt {l : List Int} {x : Int} (h : x ∈ l) : (zl l x).length < l.length := by
 unfold zl
 rw [List.length_filter_lt_length_iff_exists]
 exact ⟨x, h, by simp⟩
theorem without_nil {l : List Int} {x : Int} (hn : l.Nodup) (hne : l ≠ []) (h : zl l x = []) : l = [x] := by
 have hall : ∀ y ∈ l, y = x := fun y hy => by
  by_cases e : y = x
  ·exact e
  ·have := xm.2 ⟨hy, e⟩
   rw [h] at this
   cases this
 cases l with
 | nil => exact absurd rfl hne
 | cons a r =>
  have ha := hall a (List.mem_cons_self ..)
  cases r with
  | nil => rw [ha]
  | cons b t =>
   have hb := hall b (by simp)
   rw [List.nodup_cons] at hn
   exact absurd (show a ∈ b :: t by rw [ha, hb]; simp) hn.1
theorem chunkF_good {pk : Nat -> Int} {md n : Int} {i : Nat} {k k' : Chk} {c : Cmd} (h : YC pk md n i k) (hc : c.k = 7 -> srvP pk c.c) (hf : xF c k = .inl k') :
  k'.id = k.id /\ k'.ep = k.ep /\ YC pk md (n + 1) i { k' with ep := k'.ep + 1 } := by
 obtain ⟨hid, hvo, hep, hne, hnd, hlen, hsrv⟩ := h
 obtain ⟨nd1, nd2, nd3⟩ := List.nodup_append.1 hnd
 unfold xF at hf
 by_cases h6 : c.k = 6
 ·rw [if_pos h6] at hf
  split at hf
  ·cases hf
  rename_i hh
  split at hf
  ·cases hf
  rename_i hm
  injection hf with hf
  subst hf
  refine ⟨rfl, rfl, hid, hvo, ⟨by show 1 <= k.ep + 1; omega, by show k.ep + 1 <= n + 1; omega⟩, fun e => hm (without_nil nd1 hne e), ?_, ?_, fun x hx => ?_⟩
  ·exact List.nodup_append.2 ⟨ZG nd1, ZG nd2, fun a ha b hb => nd3 a (xm.1 ha).1 b (xm.1 hb).1⟩
  ·show (zl k.ms c.c).length + (zl k.js c.c).length <= 4
   have h1 := ZA (l := k.ms) (x := c.c)
   have h2 := ZA (l := k.js) (x := c.c)
   omega
  ·rcases List.mem_append.1 hx with hx | hx
   ·exact hsrv x (List.mem_append_left _ (xm.1 hx).1)
   ·exact hsrv x (List.mem_append_right _ (xm.1 hx).1)
 rw [if_neg h6] at hf
 by_cases h7 : c.k = 7
 ·rw [if_pos h7] at hf
  split at hf
  ·cases hf
  rename_i hh
  split at hf
  ·cases hf
  rename_i hl
  injection hf with hf
  subst hf
  have hno : c.c ∉ k.ms /\ c.c ∉ k.js := by
   simp only [hasK, Bool.or_eq_true, decide_eq_true_eq, not_or] at hh
   exact hh
  refine ⟨rfl, rfl, hid, hvo, ⟨by show 1 <= k.ep + 1; omega, by show k.ep + 1 <= n + 1; omega⟩, hne, ?_, ?_, fun x hx => ?_⟩
  ·show (k.ms ++ (k.js ++ [c.c])).Nodup
   rw [<- List.append_assoc]
   refine List.nodup_append.2 ⟨hnd, by simp, fun a ha b hb e => ?_⟩
   rw [List.mem_singleton] at hb
   subst hb; subst e
   rcases List.mem_append.1 ha with h | h
   ·exact hno.1 h
   ·exact hno.2 h
  ·show k.ms.length + (k.js ++ [c.c]).length <= 4
   rw [List.length_append]
   simp only [List.length_cons, List.length_nil]
   omega
  ·have hx' : x ∈ k.ms ++ k.js \/ x = c.c := by
    simp only [List.mem_append, List.mem_singleton] at hx ⊢
    rcases hx with h | h | h
    ·exact .inl (.inl h)
    ·exact .inl (.inr h)
    ·exact .inr h
   rcases hx' with h | rfl
   ·exact hsrv x h
   ·exact hc h7
 rw [if_neg h7] at hf
 split at hf
 ·rename_i hin
  injection hf with hf
  subst hf
  refine ⟨rfl, rfl, hid, hvo, ⟨by show 1 <= k.ep + 1; omega, by show k.ep + 1 <= n + 1; omega⟩, by simp, ?_, ?_, fun x hx => ?_⟩
  ·show (k.ms ++ [c.c] ++ zl k.js c.c).Nodup
   refine List.nodup_append.2 ⟨List.nodup_append.2 ⟨nd1, by simp, fun a ha b hb => ?_⟩, ZG nd2, fun a ha b hb => ?_⟩
   ·rw [List.mem_singleton] at hb
    subst hb
    exact nd3 a ha _ hin
   ·rcases List.mem_append.1 ha with h | h
    ·exact nd3 a h b (xm.1 hb).1
    ·rw [List.mem_singleton] at h
     subst h
     exact fun e => (xm.1 hb).2 e.symm
  ·show (k.ms ++ [c.c]).length + (zl k.js c.c).length <= 4
   have := without_lt hin
   rw [List.length_append]
   simp only [List.length_cons, List.length_nil]
   omega
  ·rcases List.mem_append.1 hx with h | h
   ·rcases List.mem_append.1 h with h | h
    ·exact hsrv x (List.mem_append_left _ h)
    ·rw [List.mem_singleton] at h
     subst h
     exact hsrv _ (List.mem_append_right _ hin)
   ·exact hsrv x (List.mem_append_right _ (xm.1 h).1)
 ·cases hf
theorem rise_set {X : List Chk} (h : Zl X) {j : Nat} {k k' : Chk} (hj : X[j]? = some k) (e : k'.id = k.id) : Zl (X.set j k') := by
 have e1 : (X.set j k').map Chk.id = X.map Chk.id := by
  rw [List.map_set, e]
  obtain ⟨h1, h2⟩ := List.getElem?_eq_some_iff.1 hj
  apply List.ext_getElem
  ·simp
  ·intro m h3 h4
   rw [List.getElem_set]
   split
   ·rename_i e3
    subst e3
    rw [List.getElem_map, h2]
   ·rfl
 have h2 : ∀ Y : List Chk, Zl Y ↔ (Y.map Chk.id).Pairwise (· < ·) := fun Y => by rw [List.pairwise_map]; rfl
 rw [h2, e1, <- h2]
 exact h
theorem renew_good {n : Int} {s : St} {i j : Nat} {k k' : Chk} (h : yy n s) (hi : i < 64) (hj : (s.vs i).ks[j]? = some k) (hid : k'.id = k.id) (hg : YC s.pk s.md (n + 1) i { k' with ep := k'.ep + 1 }) : yy (n + 1) (YE s i j k') := by
 have hv := h.vs i hi
 have hne : (s.vs i).bl ≠ 0 := fun e => by
  rw [hv.zero e] at hj
  simp [vol0] at hj
 have hmem : ∀ x ∈ ((s.vs i).ks.set j { k' with ep := k'.ep + 1 }), x ∈ (s.vs i).ks \/ x = { k' with ep := k'.ep + 1 } := fun x hx => List.mem_or_eq_of_mem_set hx
 refine h.setV hi ⟨fun e => absurd (show (s.vs i).bl = 0 from e) hne, hv.bl, hv.p, fun _ => ⟨(hv.ver hne).1, by show (s.vs i).ver <= n + 1; have := (hv.ver hne).2; omega⟩, ?_, fun x hx => ?_⟩ (h.ord.setV (rise_set (h.ord.rise i hi) hj hid) (fun x hx => ?_) hi)
 ·show (((s.vs i).ks.set j { k' with ep := k'.ep + 1 }).length : Int) = zx (s.vs i).bl
  rw [List.length_set]
  exact hv.kl
 ·rcases hmem x hx with h1 | rfl
  ·exact (hv.ks x h1).mono (fun _ e => e) (Int.le_refl _) (by omega)
  ·exact hg
 ·rcases hmem x hx with h1 | rfl
  ·exact .inl ⟨x, h1, rfl⟩
  ·exact .inl ⟨k, List.mem_of_getElem? hj, hid.symm⟩
theorem isSrv_P {s : St} {x : Int} (h : xr s x = true) : srvP s.pk x := by
 simp only [xr, Bool.and_eq_true, decide_eq_true_eq] at h
 exact ⟨h.1.1, h.1.2, h.2⟩
theorem chunkS_good {n : Int} {s : St} {c : Cmd} (h : yy n s) : yy (n + 1) (xK s c).1 /\ (xK s c).1.md = s.md := by
 unfold xK
 split
 ·exact ⟨h.mono (by omega), rfl⟩
 rename_i h7
 split
 ·exact ⟨h.mono (by omega), rfl⟩
 ·rename_i i j k hfs
  obtain ⟨hi, hj, hid⟩ := xp hfs
  split
  ·exact ⟨h.mono (by omega), rfl⟩
  split
  ·exact ⟨h.mono (by omega), rfl⟩
  ·rename_i k' hk'
   obtain ⟨e1, e2, e3⟩ := chunkF_good ((h.vs i hi).ks k (List.mem_of_getElem? hj)) (fun hc => isSrv_P (by
    cases hb : xr s c.c with
    | true => rfl
    | false => exact absurd ⟨hc, hb⟩ h7)) hk'
   exact ⟨renew_good h hi hj e1 e3, rfl⟩
def budC (c : Cmd) : Int := if (c.k = 2 \/ c.k = 4) /\ 1 <= c.b /\ c.b <= 512 then zx c.b else 0
theorem Y5 {n : Int} {s : St} {c : Cmd} (h : yy n s) (hn : 0 <= n) (hc : yj c) : yy (n + 1) (doS s c).1 /\ (doS s c).1.md <= s.md + budC c := by
 have hb0 : 0 <= budC c := by unfold budC; split <;> (try unfold zx) <;> omega
 have stay : ∀ e : Int, yy (n + 1) (s, e).1 /\ (s, e).1.md <= s.md + budC c := fun e => ⟨h.mono (by omega), by show s.md <= _; omega⟩
 unfold doS
 by_cases h1 : c.k = 1
 ·rw [if_pos h1]
  split
  ·rename_i hh
   simp only [Bool.and_eq_true, decide_eq_true_eq] at hh
   have hmono : ∀ x, srvP s.pk x -> srvP (fun i : Nat => if (i : Int) = c.a then c.b else s.pk i) x := fun x hx => by
    unfold srvP at hx ⊢
    refine ⟨hx.1, hx.2.1, ?_⟩
    show 0 < if ((x.toNat : Nat) : Int) = c.a then c.b else s.pk x.toNat
    split
    ·omega
    ·exact hx.2.2
   refine ⟨⟨fun i hi => ?_, by have := h.md; show 0 <= s.md /\ s.md <= 64 * (n + 1); omega, fun i hi => (h.vs i hi).mono hmono (Int.le_refl _) (by omega), ⟨h.ord.rise, h.ord.one⟩, trivial⟩, by show s.md <= _; omega⟩
   show 0 <= (if (i : Int) = c.a then c.b else s.pk i) /\ (if (i : Int) = c.a then c.b else s.pk i) <= 64
   split
   ·omega
   ·exact h.pk i hi
  ·exact stay 1
 rw [if_neg h1]
 by_cases h2 : c.k = 2
 ·rw [if_pos h2]
  split
  ·exact stay 1
  rename_i ht
  split
  ·exact stay 8
  split
  ·exact stay 7
  rename_i hl
  simp only [Bool.not_eq_true', Bool.not_eq_false, Bool.and_eq_true, decide_eq_true_eq] at ht
  obtain ⟨⟨⟨ha, hb⟩, hcc⟩, hp⟩ := ht
  have hbl : 1 <= c.b /\ c.b <= 512 := by unfold areB at hb; exact of_decide_eq_true hb
  have hcnt : 0 <= zx c.b := by unfold zx; omega
  have := QR (v := ⟨c.b, c.p, 1, []⟩) (copies := c.c.toNat) (i := c.a.toNat) h (by omega) (by omega) (by omega) (fun e => by rw [e] at hl; simp at hl; omega) hn hbl hp ⟨Int.le_refl _, by show (1 : Int) <= n + 1; omega⟩ (by simpa using hcnt) (fun k hk => by cases hk) List.Pairwise.nil
  refine ⟨this.1, ?_⟩
  have e : budC c = zx c.b := by unfold budC; rw [if_pos ⟨.inl h2, hbl⟩]
  rw [e]
  exact this.2
 rw [if_neg h2]
 by_cases h3 : c.k = 3
 ·rw [if_pos h3]
  split
  ·rename_i hv
   obtain ⟨m, hm, hm64, _⟩ := Zb hv
   have et : c.a.toNat = m := by omega
   rw [et]
   refine ⟨h.setV hm64 ⟨fun _ => rfl, by simp [vol0], fun e => absurd rfl e, fun e => absurd rfl e, by simp [vol0, zx], fun k hk => by cases hk⟩ (h.ord.setV List.Pairwise.nil (fun k hk => by cases hk) hm64), by show s.md <= _; omega⟩
  ·exact stay 7
 rw [if_neg h3]
 by_cases h4 : c.k = 4
 ·rw [if_pos h4]
  split
  ·exact stay 1
  rename_i hb
  split
  ·exact stay 7
  rename_i hv
  rw [Bool.not_eq_false] at hb hv
  obtain ⟨m, hm, hm64, hm0⟩ := Zb hv
  have et : c.a.toNat = m := by omega
  have hbl : 1 <= c.b /\ c.b <= 512 := by unfold areB at hb; exact of_decide_eq_true hb
  simp only [et]
  have hvm := h.vs m hm64
  obtain ⟨k0, r0, hks⟩ : ∃ k0 r0, (s.vs m).ks = k0 :: r0 := by
   cases hx : (s.vs m).ks with
   | nil => exact absurd hx (h.ne m hm64 hm0)
   | cons a r => exact ⟨a, r, rfl⟩
  obtain ⟨q, hq⟩ : ∃ q : Nat, (zx c.b).toNat = q + 1 := ⟨(zx c.b).toNat - 1, by unfold zx; omega⟩
  have hcnt0 : 0 <= zx c.b := (by unfold zx; omega)
  have hcnt : ((q + 1 : Nat) : Int) = zx c.b := (by omega)
  rw [hq, hks]
  simp only [List.take_succ_cons]
  have hk0 := hvm.ks k0 (by rw [hks]; exact List.mem_cons_self ..)
  have h0 : 0 < k0.ms.length := List.length_pos_iff.2 hk0.ne
  have hlen4 := hk0.len
  have hsrv : zm s.pk ≠ [] := fun e => by
   obtain ⟨x, hx⟩ : ∃ x, x ∈ k0.ms := List.exists_mem_of_ne_nil _ hk0.ne
   have := servers_mem (hk0.srv x (List.mem_append_left _ hx))
   rw [e] at this
   cases this
  have hsub : ∀ k ∈ k0 :: r0.take q, k ∈ (s.vs m).ks := fun k hk => by
   rw [hks]
   have : k ∈ (k0 :: r0).take (q + 1) := by rw [List.take_succ_cons]; exact hk
   exact List.mem_of_mem_take this
  have hrise : Zl (k0 :: r0.take q) := by
   have := h.ord.rise m hm64
   rw [hks] at this
   have h2 := this.sublist (List.take_sublist (q + 1) (k0 :: r0))
   rwa [List.take_succ_cons] at h2
  have := QR (v := { s.vs m with bl := c.b, ks := k0 :: r0.take q }) (copies := k0.ms.length) (i := m) h hm64 (by omega) (by omega) hsrv hn hbl (hvm.p hm0) ⟨(hvm.ver hm0).1, by have := (hvm.ver hm0).2; show (s.vs m).ver <= n + 1; omega⟩ (by
   show ((k0 :: r0.take q).length : Int) <= zx c.b
   rw [<- hcnt, List.length_cons, List.length_take]
   omega) hsub hrise
  refine ⟨this.1, ?_⟩
  have e : budC c = zx c.b := by unfold budC; rw [if_pos ⟨.inr h4, hbl⟩]
  rw [e]
  exact this.2
 rw [if_neg h4]
 by_cases h5 : c.k = 5
 ·rw [if_pos h5]
  split
  ·exact stay 1
  rename_i hp
  split
  ·exact stay 7
  rename_i hv
  rw [Bool.not_eq_false] at hp hv
  obtain ⟨m, hm, hm64, hm0⟩ := Zb hv
  have et : c.a.toNat = m := by omega
  simp only [et]
  have hvm := h.vs m hm64
  refine ⟨h.setV hm64 ⟨fun e => absurd (show (s.vs m).bl = 0 from e) hm0, hvm.bl, fun _ => hp, fun _ => ?_, hvm.kl, fun k hk => (hvm.ks k hk).mono (fun _ e => e) (Int.le_refl _) (by omega)⟩ (h.ord.setV (h.ord.rise m hm64) (fun k hk => .inl ⟨k, hk, rfl⟩) hm64), by show s.md <= _; omega⟩
  have := hvm.ver hm0
  show 1 <= (s.vs m).ver + 1 /\ (s.vs m).ver + 1 <= n + 1
  omega
 rw [if_neg h5]
 obtain ⟨a, b⟩ := chunkS_good (c := c) h
 exact ⟨a, by rw [b]; omega⟩
theorem xS.ready {n : Int} {s : St} {c : Cmd} (h : xS n s) (hn : 0 <= n) (hn2 : n < 1000000000) (hc : yj c) : ReadyS s c :=
 ⟨h.d.fit (by omega), h.d.ord, h.d.ne, (Y5 h.d hn hc).1.fit (by omega), hc⟩
theorem ZF {n : Int} {s : St} {c : Cmd} (h : xS n s) (hn : 0 <= n) (hc : yj c) : xS (n + 1) (yR s c).1 /\ (yR s c).1.md <= s.md + budC c := by
 have hb0 : 0 <= budC c := by unfold budC; split <;> (try unfold zx) <;> omega
 have stay : xS (n + 1) s /\ s.md <= s.md + budC c := ⟨⟨h.d.mono (by omega), h.adm⟩, by omega⟩
 unfold yR
 split
 ·split
  ·exact stay
  split
  ·rename_i ha
   exact ⟨⟨(Y5 h.d hn hc).1, ha⟩, (Y5 h.d hn hc).2⟩
  ·exact stay
 ·exact stay
end Go.Proofs.YteebkolccbcehaaGreat
