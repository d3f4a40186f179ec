/-
  Several texts in one.
-/
import Derived.Test.YteecgiebimdbhaaGreatDoorK18
set_option maxRecDepth 100000
set_option maxHeartbeats 8000000
namespace Go.Proofs.YteecgiebimdbhaaGreatDoor
open Go.RowKit
open M
structure Nm where
 name : ByteArray
 typ : Ty
structure If where
 pkg : ByteArray
 major : Int
 mod : ByteArray
 types : List Nm
 vals : List Nm
def isIf (p : ByteArray) (j : Int) (d : ByteArray) (x : If) : Bool := decide (x.pkg = p) && ((x.major == j) && decide (x.mod = d))
def findI (env : List If) (p : ByteArray) (j : Int) (d : ByteArray) : Option Nat := env.findIdx? (isIf p j d)
def isNm (s : ByteArray) (x : Nm) : Bool := decide (x.name = s)
def ofI (l : List Nm) (s : ByteArray) : Option Nat := l.findIdx? (isNm s)
def impAt (m : Mo) (s : ByteArray) : Option Nat := m.imps.findIdx? fun x => decide (x.asn = s)
def envT (env : List If) (x : Im) (s : ByteArray) : Option Ty :=
 match findI env x.pkg x.major x.mod with
 | none => none
 | some k => match env[k]? with
  | none => none
  | some i => match ofI i.types s with
   | none => none
   | some n => (i.types[n]?).map (·.typ)
def thereT (m : Mo) (env : List If) (l : Ty) : Option Ty :=
 match impAt m l.mod with
 | none => none
 | some k => match m.imps[k]? with
  | none => none
  | some x => match envT env x l.name with
   | none => none
   | some t => if (mayT t && plainT t) = true then some t else none
theorem thereT_plain {m : Mo} {env : List If} {l t : Ty} (h : thereT m env l = some t) : mayT t = true /\ plainT t = true := by
 unfold thereT at h
 split at h
 ·cases h
 ·split at h
  ·cases h
  ·split at h
   ·cases h
   ·split at h
    ·rename_i hp
     cases h
     exact (Bool.and_eq_true _ _).mp hp
    ·cases h
def openT (m : Mo) (pkg : ByteArray) (major : Int) (name : ByteArray) : Ty := .mk 9 pkg major m.name name [] []
def meanT (m : Mo) (pkg : ByteArray) (major : Int) (env : List If) (x : Ty) : Option Ty :=
 if x.mod.size = 0 then
  match typAt m x.name with
  | none => none
  | some k => (m.decs[k]?).map fun d => if d.kind = 3 then d.typ else openT m pkg major x.name
 else thereT m env x
def Ty.withSubs (t : Ty) (us : List Ty) : Ty := .mk t.kind t.pkg t.major t.mod t.name t.names us
def ExpH (mean : Ty -> Option Ty) : Nat -> Ty -> Ty -> Prop
 | 0, _, _ => False
 | h + 1, t, u => (t.kind = 8 /\ ∃ s, mean t = some s /\ ExpH mean h s u) \/ (t.kind ≠ 8 /\ ∃ us : List Ty, u = Ty.withSubs t us /\ us.length = t.subs.length /\ ∀ (i : Nat) (s v : Ty), t.subs[i]? = some s -> us[i]? = some v -> ExpH mean h s v)
theorem ExpH.mono {mean : Ty -> Option Ty} : ∀ {h : Nat} {h' : Nat} {t u : Ty}, h <= h' -> ExpH mean h t u -> ExpH mean h' t u
 | 0, _, _, _, _, hx => hx.elim
 | h + 1, 0, _, _, hle, _ => by omega
 | h + 1, h' + 1, t, u, hle, hx => by
  rcases hx with ⟨h8, s, hs, hx⟩ | ⟨h8, us, rfl, hl, hx⟩
  ·exact .inl ⟨h8, s, hs, ExpH.mono (by omega) hx⟩
  ·exact .inr ⟨h8, us, rfl, hl, fun i s v hs hv => ExpH.mono (by omega) (hx i s v hs hv)⟩
theorem plain_parts {t : Ty} (h : plainT t = true) : t.kind ≠ 8 /\ ∀ s ∈ t.subs, plainT s = true := by
 cases t with
 | mk k p j d n ns ss =>
  unfold plainT at h
  simp only [Bool.and_eq_true, Bool.not_eq_true', beq_eq_false_iff_ne] at h;refine ⟨h.1, ?_⟩
  have key : ∀ l : List Ty, plainL l = true -> ∀ s ∈ l, plainT s = true := by
   intro l;induction l with
   | nil => intro _ s hs; cases hs
   | cons a r ih =>
    intro h s hs;unfold plainL at h
    rw [Bool.and_eq_true] at h;rcases List.mem_cons.1 hs with rfl | hs
    ·exact h.1
    ·exact ih h.2 s hs
  exact key ss h.2
theorem exp_plain (mean : Ty -> Option Ty) : ∀ (N : Nat) (t : Ty), many t <= N -> plainT t = true -> ExpH mean N t t := by
 intro N
 induction N with
 | zero => intro t h; have := many_pos t; omega
 | succ N ih =>
  intro t hN hp;obtain ⟨h8, hs⟩ := plain_parts hp;refine .inr ⟨h8, t.subs, by cases t; rfl, rfl, fun i s v h1 h2 => ?_⟩;rw [h1] at h2;cases h2
  have hm := List.mem_of_getElem? h1;have := manyL_mem _ _ hm
  have e : many t = 1 + manyL t.subs := by cases t; rfl
  exact ih s (by omega) (hs s hm)
structure Good (m : Mo) (env : List If) (t : Ty) : Prop where
 ok : allOk t = true
 kno : ∀ x ∈ locT t, knoN m x = true
 has : ∀ x ∈ locT t, x.mod.size ≠ 0 -> (thereT m env x).isSome = true
 on : ∀ (k : Nat) (d : De), Reach (entries m) (saidT m t) k -> m.decs[k]? = some d -> d.kind = 3 -> ∀ x ∈ locT d.typ, x.mod.size ≠ 0 -> (thereT m env x).isSome = true
noncomputable def reaches (m : Mo) (t : Ty) : Nat := ((List.range m.decs.length).filter fun i => reachB (entries m) (saidT m t) i).length
theorem reaches_le {m : Mo} {s t : Ty} (h : ∀ i, Reach (entries m) (saidT m s) i -> Reach (entries m) (saidT m t) i) : reaches m s <= reaches m t := by
 unfold reaches
 have := filter_le (fun i => !reachB (entries m) (saidT m s) i |> Bool.not) (fun i => reachB (entries m) (saidT m t) i) (fun i hi => reachB_iff.2 (h i (reachB_iff.1 (by simpa using hi)))) (List.range m.decs.length)
 have key : ∀ l : List Nat, (l.filter fun i => reachB (entries m) (saidT m s) i).length <= (l.filter fun i => reachB (entries m) (saidT m t) i).length := by
  intro l;induction l with
  | nil => exact Nat.le_refl _
  | cons a r ih =>
   cases h1 : reachB (entries m) (saidT m s) a with
   | false =>
    cases h2 : reachB (entries m) (saidT m t) a with
    | false => simp [h1, h2]; exact ih
    | true => simp [h1, h2]; omega
   | true =>
    have h2 : reachB (entries m) (saidT m t) a = true := reachB_iff.2 (h a (reachB_iff.1 h1));simp [h1, h2]; exact ih
 exact key _
theorem reaches_lt {m : Mo} {s t : Ty} (h : ∀ i, Reach (entries m) (saidT m s) i -> Reach (entries m) (saidT m t) i) {k : Nat} (hk : k < m.decs.length) (hkt : Reach (entries m) (saidT m t) k) (hks : ¬ Reach (entries m) (saidT m s) k) : reaches m s < reaches m t := by
 unfold reaches
 have le : ∀ l : List Nat, (l.filter fun i => reachB (entries m) (saidT m s) i).length <= (l.filter fun i => reachB (entries m) (saidT m t) i).length := by
  intro l;induction l with
  | nil => exact Nat.le_refl _
  | cons a r ih =>
   cases h1 : reachB (entries m) (saidT m s) a with
   | false =>
    cases h2 : reachB (entries m) (saidT m t) a with
    | false => simp [h1, h2]; exact ih
    | true => simp [h1, h2]; omega
   | true =>
    have h2 : reachB (entries m) (saidT m t) a = true := reachB_iff.2 (h a (reachB_iff.1 h1));simp [h1, h2]; exact ih
 have h1k : reachB (entries m) (saidT m s) k = false := by
  cases e : reachB (entries m) (saidT m s) k with
  | false => rfl
  | true => exact absurd (reachB_iff.1 e) hks
 have h2k := reachB_iff.2 hkt
 have lt : ∀ l : List Nat, k ∈ l -> (l.filter fun i => reachB (entries m) (saidT m s) i).length < (l.filter fun i => reachB (entries m) (saidT m t) i).length := by
  intro l;induction l with
  | nil => intro h; cases h
  | cons a r ih =>
   intro hm;by_cases e : k = a
   ·subst e
    have := le r
    simp [h1k, h2k]; omega
   ·have := ih ((List.mem_cons.1 hm).resolve_left e)
    cases h1 : reachB (entries m) (saidT m s) a with
    | false =>
     cases h2 : reachB (entries m) (saidT m t) a with
     | false => simp [h1, h2]; exact this
     | true => simp [h1, h2]; omega
    | true =>
     have h2 : reachB (entries m) (saidT m t) a = true := reachB_iff.2 (h a (reachB_iff.1 h1));simp [h1, h2]; exact this
 exact lt _ (List.mem_range.2 hk)
theorem said_sub {m : Mo} {t s : Ty} (hk : t.kind ≠ 8) (hs : s ∈ t.subs) : ∀ i ∈ saidT m s, i ∈ saidT m t := by
 rw [saidT_sub m t hk]
 have key : ∀ l : List Ty, s ∈ l -> ∀ i ∈ saidT m s, i ∈ saidL m l := by
  intro l;induction l with
  | nil => intro h; cases h
  | cons a r ih =>
   intro h i hi;unfold saidL
   rcases List.mem_cons.1 h with rfl | h
   ·exact List.mem_append_left _ hi
   ·exact List.mem_append_right _ (ih h i hi)
 exact key _ hs
theorem loc_sub {t s : Ty} (hs : s ∈ t.subs) : ∀ x ∈ locT s, x ∈ locT t := by
 rw [locT_eq t]
 have key : ∀ l : List Ty, s ∈ l -> ∀ x ∈ locT s, x ∈ locL l := by
  intro l;induction l with
  | nil => intro h; cases h
  | cons a r ih =>
   intro h x hx;unfold locL
   rcases List.mem_cons.1 h with rfl | h
   ·exact List.mem_append_left _ hx
   ·exact List.mem_append_right _ (ih h x hx)
 exact fun x hx => List.mem_append_right _ (key _ hs x hx)
theorem Good.sub {m : Mo} {env : List If} {t s : Ty} (h : Good m env t) (hk : t.kind ≠ 8) (hs : s ∈ t.subs) : Good m env s := by
 have ha := h.ok
 rw [allOk_eq, Bool.and_eq_true] at ha
 exact ⟨(allOkL_mem _).1 ha.2 s hs, fun x hx => h.kno x (loc_sub hs x hx), fun x hx => h.has x (loc_sub hs x hx), fun k d hr => h.on k d (hr.mono fun j hj => .one (said_sub hk hs j hj))⟩
theorem exp_some {m : Mo} {pkg : ByteArray} {major : Int} {env : List If} (hm : mayM m = true) (ok : Ok7 m) : ∀ (N : Nat) (M : Nat) (t : Ty), reaches m t <= N -> many t <= M -> Good m env t -> ∃ h u, ExpH (meanT m pkg major env) h t u := by
 intro N
 induction N using Nat.strongRecOn with
 | ind N ihN =>
 intro M
 induction M with
 | zero => intro t _ h; have := many_pos t; omega
 | succ M ih =>
  intro t hN hM hg;by_cases hk : t.kind = 8
  ·by_cases hz : t.mod.size = 0
   ·have hx : t ∈ locT t := by rw [locT_eq, if_pos hk]; simp
    have h1 := hg.kno t hx;unfold knoN at h1
    rw [if_pos hz] at h1;obtain ⟨k, hk1⟩ := Option.isSome_iff_exists.1 h1;obtain ⟨d, hd⟩ := dec_at (typAt_lt hk1);have hsd : saidT m t = [k] := by rw [saidT_local m t hk, if_pos hz, hk1]; rfl
    by_cases h3 : d.kind = 3
    ·have hmean : meanT m pkg major env t = some d.typ := by unfold meanT; rw [if_pos hz, hk1]; simp [hd, h3]
     have hrk : Reach (entries m) (saidT m t) k := .one (by rw [hsd]; simp);have hin : ∀ i, Reach (entries m) (saidT m d.typ) i -> Reach (entries m) (saidT m t) i := fun i hr => hr.mono fun j hj => .step hrk (entries_at hd) hj
     have hmd := (mayM_parts hm).2.2.2 d (List.mem_of_getElem? hd)
     have hmt : mayT d.typ = true := by
      rcases mayD_sorts hmd with ⟨e, -⟩ | ⟨-, e, -⟩ | ⟨e, -⟩
      ·rcases e with e | e <;> rw [h3] at e <;> cases e
      ·exact e
      ·rw [h3] at e; cases e
     have hgd : Good m env d.typ := by
      refine ⟨?_, fun x hx => ?_, fun x hx hz => hg.on k d hrk hd h3 x hx hz, fun j e hr => hg.on j e (hin j hr)⟩
      ·unfold mayT at hmt
       simp only [Bool.and_eq_true] at hmt;exact hmt.1.1
      ·have := ok.whole k d hd
       rw [(loc_may m hmt).2, List.all_eq_true] at this;exact this x hx
     have hlt := reaches_lt hin (dec_lt hd) hrk (ok.circ k d hd);obtain ⟨h, u, hu⟩ := ihN (reaches m d.typ) (by omega) (many d.typ) d.typ (Nat.le_refl _) (Nat.le_refl _) hgd;exact ⟨h + 1, u, .inl ⟨hk, _, hmean, hu⟩⟩
    ·have hmean : meanT m pkg major env t = some (openT m pkg major t.name) := by unfold meanT; rw [if_pos hz, hk1]; simp [hd, h3]
     exact ⟨2, openT m pkg major t.name, .inl ⟨hk, _, hmean, .inr ⟨by show (9 : Int) ≠ 8; decide, [], rfl, rfl, fun i s v h => by simp [openT, Ty.subs] at h⟩⟩⟩
   ·have hx : t ∈ locT t := by rw [locT_eq, if_pos hk]; simp
    obtain ⟨s, hs⟩ := Option.isSome_iff_exists.1 (hg.has t hx hz);have hmean : meanT m pkg major env t = some s := by unfold meanT; rw [if_neg hz, hs]
    exact ⟨many s + 1, s, .inl ⟨hk, s, hmean, exp_plain _ _ s (Nat.le_refl _) (thereT_plain hs).2⟩⟩
  ·have hall : ∀ i : Fin t.subs.length, ∃ q : Nat × Ty, ExpH (meanT m pkg major env) q.1 t.subs[i] q.2 := fun i => by
    have hm1 : t.subs[i] ∈ t.subs := List.getElem_mem _;have h1 := manyL_mem _ _ hm1;have e : many t = 1 + manyL t.subs := by cases t; rfl
    obtain ⟨h, u, hu⟩ := ih t.subs[i] (Nat.le_trans (reaches_le fun j hr => hr.mono fun q hq => .one (said_sub hk hm1 q hq)) hN) (by omega) (hg.sub hk hm1);exact ⟨(h, u), hu⟩
   obtain ⟨F, hF⟩ := Classical.axiomOfChoice hall
   obtain ⟨H, hH⟩ : ∃ H, ∀ i, (F i).1 <= H := by
    have key : ∀ l : List Nat, ∃ H, ∀ x ∈ l, x <= H := by
     intro l;induction l with
     | nil => exact ⟨0, fun x h => by cases h⟩
     | cons a r ih =>
      obtain ⟨H, hH⟩ := ih
      exact ⟨max a H, fun x hx => by
       rcases List.mem_cons.1 hx with rfl | hx
       ·omega
       ·have := hH x hx; omega⟩
    obtain ⟨H, hH⟩ := key (List.ofFn fun i => (F i).1);exact ⟨H, fun i => hH _ (List.mem_ofFn.2 ⟨i, rfl⟩)⟩
   refine ⟨H + 1, Ty.withSubs t (List.ofFn fun i => (F i).2), .inr ⟨hk, _, rfl, by simp, fun i s v hs hv => ?_⟩⟩;have hi := (List.getElem?_eq_some_iff.1 hs).1;rw [List.getElem?_eq_getElem hi] at hs;cases hs
   rw [List.getElem?_ofFn, dif_pos hi] at hv;cases hv
   exact (hF ⟨i, hi⟩).mono (hH _)
theorem exp_is_plain {m : Mo} {pkg : ByteArray} {major : Int} {env : List If} : ∀ (h : Nat) (t u : Ty), ExpH (meanT m pkg major env) h t u -> plainT u = true := by
 intro h
 induction h with
 | zero => intro t u hx; exact hx.elim
 | succ h ih =>
  intro t u hx;rcases hx with ⟨h8, s, hs, hx⟩ | ⟨h8, us, rfl, hl, hx⟩
  ·exact ih s u hx
  ·unfold Ty.withSubs plainT
   have e : (t.kind == 8) = false := by simpa using h8
   rw [e]
   have key : ∀ l : List Ty, (∀ v ∈ l, plainT v = true) -> plainL l = true := by
    intro l;induction l with
    | nil => intro _; rfl
    | cons a r ih =>
     intro h;unfold plainL
     rw [h a List.mem_cons_self, ih fun v hv => h v (List.mem_cons_of_mem _ hv)]; rfl
   rw [key us fun v hv => ?_]
   ·rfl
   obtain ⟨i, hi⟩ := List.mem_iff_getElem?.1 hv;have hil := (List.getElem?_eq_some_iff.1 hi).1;exact ih _ v (hx i _ v (List.getElem?_eq_getElem (by omega)) hi)
theorem local_great {t : Ty} (h : ownOk t = true) (hk : t.kind = 8) : greatB t.name.data.toList = true := by
  unfold ownOk shapeOk at h
  rw [hk] at h;simp only [Bool.and_eq_true, decide_eq_true_eq, reduceCtorEq, if_neg (show ¬ ((8 : Int) = 1 \/ (8 : Int) = 2 \/ (8 : Int) = 3) by decide), if_neg (show ¬ (8 : Int) = 4 by decide), if_neg (show ¬ (8 : Int) = 5 by decide), if_neg (show ¬ (8 : Int) = 6 by decide), if_neg (show ¬ (8 : Int) = 7 by decide), if_pos] at h;exact h.2.1.2
theorem open_ok {m : Mo} {pkg : ByteArray} {major : Int} {name : ByteArray} (hm : mayM m = true) (hp : smallB pkg.data.toList = true) (h1 : 1 <= major) (h2 : major <= 999999999) (hn : greatB name.data.toList = true) : allOk (openT m pkg major name) = true := by
  have hs : smallB m.name.data.toList = true := by
    unfold mayM at hm
    simp only [Bool.and_eq_true] at hm;exact hm.1
  rw [allOk_eq];unfold openT ownOk shapeOk
  simp [Ty.kind, Ty.subs, Ty.names, Ty.pkg, Ty.mod, Ty.name, Ty.major, namesOk, allOkL, hs, hp, hn, h1, h2]
theorem with_ok {t : Ty} {us : List Ty} (h : ownOk t = true) (hl : us.length = t.subs.length) : ownOk (Ty.withSubs t us) = true := by
  cases t with
  | mk k p j d n ns ss =>
    unfold ownOk shapeOk noMore at h ⊢
    simp only [Ty.withSubs, Ty.kind, Ty.pkg, Ty.major, Ty.mod, Ty.name, Ty.names, Ty.subs] at h hl ⊢;simp only [hl]; exact h
theorem exp_ok {m : Mo} {pkg : ByteArray} {major : Int} {env : List If} (hm : mayM m = true) (hp : smallB pkg.data.toList = true) (h1 : 1 <= major) (h2 : major <= 999999999) : ∀ (h : Nat) (t u : Ty), allOk t = true -> ExpH (meanT m pkg major env) h t u -> allOk u = true := by
  intro h;induction h with
  | zero => intro t u _ hx; exact hx.elim
  | succ h ih =>
    intro t u ht hx;rcases hx with ⟨h8, s, hs, hx⟩ | ⟨h8, us, rfl, hl, hx⟩
    · refine ih s u ?_ hx
      unfold meanT at hs
      split at hs
      · split at hs
        · cases hs
        · rename_i k hk
          obtain ⟨d, hd⟩ := dec_at (typAt_lt hk);rw [hd] at hs;simp only [Option.map_some, Option.some.injEq] at hs;have ho : ownOk t = true := by rw [allOk_eq, Bool.and_eq_true] at ht; exact ht.1
          split at hs
          · rename_i h3
            rcases mayD_sorts ((mayM_parts hm).2.2.2 d (List.mem_of_getElem? hd)) with ⟨e, -⟩ | ⟨-, e, -⟩ | ⟨e, -⟩
            · rcases e with e | e <;> rw [h3] at e <;> cases e
            · rw [<- hs]; unfold mayT at e; simp only [Bool.and_eq_true] at e; exact e.1.1
            · rw [h3] at e; cases e
          · rw [<- hs]; exact open_ok hm hp h1 h2 (local_great ho h8)
      · have := (thereT_plain hs).1
        unfold mayT at this
        simp only [Bool.and_eq_true] at this;exact this.1.1
    · rw [allOk_eq, Bool.and_eq_true] at ht ⊢
      refine ⟨with_ok ht.1 hl, (allOkL_mem _).2 fun v hv => ?_⟩;replace hv : v ∈ us := hv
      obtain ⟨i, hi⟩ := List.mem_iff_getElem?.1 hv;have hil := (List.getElem?_eq_some_iff.1 hi).1;have hs : t.subs[i]? = some t.subs[i] := List.getElem?_eq_getElem (by omega);exact ih _ v ((allOkL_mem _).1 ht.2 _ (List.mem_of_getElem? hs)) (hx i _ v hs hi)
theorem exp_one {mean : Ty -> Option Ty} : ∀ (h h' : Nat) (t u u' : Ty), ExpH mean h t u -> ExpH mean h' t u' -> u = u' := by
  intro h;induction h with
  | zero => intro h' t u u' hx; exact hx.elim
  | succ h ih =>
    intro h' t u u' hx hy;cases h' with
    | zero => exact hy.elim
    | succ h' =>
      rcases hx with ⟨h8, s, hs, hx⟩ | ⟨h8, us, rfl, hl, hx⟩ <;> rcases hy with ⟨h8', s', hs', hy⟩ | ⟨h8', us', rfl, hl', hy⟩
      · rw [hs] at hs'
        cases hs'
        exact ih h' s u u' hx hy
      · exact absurd h8 h8'
      · exact absurd h8' h8
      · have : us = us' := by
          apply List.ext_getElem? 
          intro i;by_cases hi : i < t.subs.length
          · have h1 : us[i]? = some us[i] := List.getElem?_eq_getElem (by omega)
            have h2 : us'[i]? = some us'[i] := List.getElem?_eq_getElem (by omega);have h3 : t.subs[i]? = some t.subs[i] := List.getElem?_eq_getElem hi;rw [h1, h2, ih h' _ _ _ (hx i _ _ h3 h1) (hy i _ _ h3 h2)]
          · rw [List.getElem?_eq_none (by omega), List.getElem?_eq_none (by omega)]
        rw [this]
end Go.Proofs.YteecgiebimdbhaaGreatDoor
namespace Go.Proofs.YteecgiebimdbhaaGreatDoor
open Go Go.ChangeShapes Go.WideShapes Go.ChangeAt Go.RowKit Go.Joins Go.Deep
open M
def nmE (w : World) (l : List Value) (x : Nm) : Prop := x.name.size <= 9223372036854775807 /\ ∃ l7 : List Value, l = .string x.name :: l7 /\ TyAt w l7 x.typ
def nmR : Reads Nm := ⟨8, 57, nmE, fun _ _ _ _ _ _ ⟨hs, l7, e, h⟩ hz hb => ⟨hs, l7, e, h.move hz hb⟩, fun _ _ _ _ ⟨hs, l7, e, h⟩ hb => ⟨hs, l7, e, h.keep hb⟩, fun _ _ _ _ ⟨hs, l7, e, h⟩ => ⟨hs, l7, e, h.free⟩, fun _ l x ⟨_, l7, e, h⟩ => by rw [e]; simp [h.len]⟩
def ifE (w : World) (l : List Value) (x : If) : Prop :=
  ∃ (At : Option Addr) (ct : Nat) (Av : Option Addr) (cv : Nat), l = [.string x.pkg, .int .i64 x.major, .string x.mod, .slice At x.types.length ct, .slice Av x.vals.length cv] /\ x.pkg.size <= 9223372036854775807 /\ x.mod.size <= 9223372036854775807 /\ x.types.length <= 9223372036854775807 /\ x.vals.length <= 9223372036854775807 /\ RowIn nmR w At x.types /\ RowIn nmR w Av x.vals
def ifR : Reads If := ⟨5, 50, ifE, fun _ _ _ _ _ _ ⟨At, ct, Av, cv, e, h1, h2, h3, h4, h5, h6⟩ hz hb => ⟨At, ct, Av, cv, e, h1, h2, h3, h4, h5.move hz hb, h6.move hz hb⟩, fun _ _ _ _ ⟨At, ct, Av, cv, e, h1, h2, h3, h4, h5, h6⟩ hb => ⟨At, ct, Av, cv, e, h1, h2, h3, h4, h5.below hb, h6.below hb⟩, fun _ _ _ _ ⟨At, ct, Av, cv, e, h1, h2, h3, h4, h5, h6⟩ => ⟨At, ct, Av, cv, e, h1, h2, h3, h4, h5.free, h6.free⟩, fun _ l x ⟨At, ct, Av, cv, e, _⟩ => by rw [e]; rfl⟩
theorem RowIn.nm {w : World} {A : Option Addr} {xs : List Nm} (h : RowIn nmR w A xs) {i : Nat} {x : Nm} (hx : xs[i]? = some x) : ∃ (g o : Nat) (Bn : Option Addr) (cB : Nat) (Bs : Option Addr) (dB : Nat), A = some ⟨g, o, none⟩ /\ g < w.heap.size /\
    w.cell? ⟨g, o + i * 8, none⟩ = some (.string x.name) /\ w.cell? ⟨g, o + i * 8 + 1, none⟩ = some (.int .i64 x.typ.kind) /\ w.cell? ⟨g, o + i * 8 + 1 + 1, none⟩ = some (.string x.typ.pkg) /\ w.cell? ⟨g, o + i * 8 + 1 + 2, none⟩ = some (.int .i64 x.typ.major) /\ w.cell? ⟨g, o + i * 8 + 1 + 3, none⟩ = some (.string x.typ.mod) /\
    w.cell? ⟨g, o + i * 8 + 1 + 4, none⟩ = some (.string x.typ.name) /\ w.cell? ⟨g, o + i * 8 + 1 + 5, none⟩ = some (.slice Bn x.typ.names.length cB) /\ w.cell? ⟨g, o + i * 8 + 1 + 6, none⟩ = some (.slice Bs x.typ.subs.length dB) /\ TyAt w [.int .i64 x.typ.kind, .string x.typ.pkg, .int .i64 x.typ.major, .string x.typ.mod, .string x.typ.name, .slice Bn x.typ.names.length cB, .slice Bs x.typ.subs.length dB] x.typ /\ x.name.size <= 9223372036854775807 := by
  obtain ⟨g, o, l, hA, hg, hc, hs, l7, rfl, hT⟩ := h i x hx;obtain ⟨Bn, cB, Bs, dB, rfl, -⟩ := hT.parts;exact ⟨g, o, Bn, cB, Bs, dB, hA, hg, hc 0 _ rfl, hc 1 _ rfl, hc 2 _ rfl, hc 3 _ rfl, hc 4 _ rfl, hc 5 _ rfl, hc 6 _ rfl, hc 7 _ rfl, hT, hs⟩
theorem RowIn.ifc {w : World} {A : Option Addr} {xs : List If} (h : RowIn ifR w A xs) {i : Nat} {x : If} (hx : xs[i]? = some x) : ∃ (g o : Nat) (At : Option Addr) (ct : Nat) (Av : Option Addr) (cv : Nat), A = some ⟨g, o, none⟩ /\ g < w.heap.size /\
    w.cell? ⟨g, o + i * 5, none⟩ = some (.string x.pkg) /\ w.cell? ⟨g, o + i * 5 + 1, none⟩ = some (.int .i64 x.major) /\ w.cell? ⟨g, o + i * 5 + 2, none⟩ = some (.string x.mod) /\ w.cell? ⟨g, o + i * 5 + 3, none⟩ = some (.slice At x.types.length ct) /\ w.cell? ⟨g, o + i * 5 + 4, none⟩ = some (.slice Av x.vals.length cv) /\
    x.pkg.size <= 9223372036854775807 /\ x.mod.size <= 9223372036854775807 /\ x.types.length <= 9223372036854775807 /\ x.vals.length <= 9223372036854775807 /\ RowIn nmR w At x.types /\ RowIn nmR w Av x.vals := by
  obtain ⟨g, o, l, hA, hg, hc, At, ct, Av, cv, rfl, h1, h2, h3, h4, h5, h6⟩ := h i x hx;exact ⟨g, o, At, ct, Av, cv, hA, hg, hc 0 _ rfl, hc 1 _ rfl, hc 2 _ rfl, hc 3 _ rfl, hc 4 _ rfl, h1, h2, h3, h4, h5, h6⟩
section
variable {H : Type} {enc : TypeId × Value -> H} {w : World} {base : Nat} {sp : Nat -> Bool} {held : Bool}
end
end Go.Proofs.YteecgiebimdbhaaGreatDoor
namespace Go.Proofs.YteecgiebimdbhaaGreatDoor
open Go Go.RowKit Go.Shelf
open Go.Sort Go.Maps
open M
def optN : Option Nat -> Int
  | some i => i
  | none => -1
theorem idx_yes {α : Type} {p : α -> Bool} {l : List α} {k : Nat} {x : α} (hx : l[k]? = some x) (hn : ∀ y ∈ l.take k, p y = false) (h : p x = true) : l.findIdx? p = some k := by
  rw [List.findIdx?_eq_some_iff_getElem];obtain ⟨hk, rfl⟩ := List.getElem?_eq_some_iff.1 hx;refine ⟨hk, h, fun j hj => ?_⟩;rw [hn _ (List.mem_of_getElem? (i := j) (by rw [List.getElem?_take, if_pos hj]; exact List.getElem?_eq_getElem (by omega)))];simp
theorem idx_no {α : Type} {p : α -> Bool} {l : List α} (hn : ∀ x ∈ l, p x = false) : l.findIdx? p = none := by rw [List.findIdx?_eq_none_iff]; exact hn
end Go.Proofs.YteecgiebimdbhaaGreatDoor
namespace Go.Proofs.YteecgiebimdbhaaGreatDoor
open Go.RowKit
open Go.Sort Go.Maps
open M
def isDe (s : ByteArray) (d : De) : Bool := decide (d.name = s)
def isAs (s : ByteArray) (x : Im) : Bool := decide (x.asn = s)
theorem pIf_one (y : If) (At : Option Addr) (ct : Nat) (Av : Option Addr) (cv : Nat) (x : Im) (xb : Nat) (w : World) (hx : w.heap[xb]? = some (.cells #[.string x.pkg, .int .i64 x.major, .string x.mod, .string x.asn] 71 (0, 0))) :
  Calls Tryz.prog 129 #[.agg #[.string y.pkg, .int .i64 y.major, .string y.mod, .slice At y.types.length ct, .slice Av y.vals.length cv], .pointer (some ⟨xb, 0, none⟩)] w fun e w' => e = .returned (.bool (isIf x.pkg x.major x.mod y)) /\ Below w.heap.size w w' := by
 obtain ⟨wb, hwb⟩ : ∃ wb, wb = w.alloc (.cells #[.string y.pkg, .int .i64 y.major, .string y.mod, .slice At y.types.length ct, .slice Av y.vals.length cv] 50) := ⟨_, rfl⟩
 have B0 : Below w.heap.size w wb := by rw [hwb]; exact below_new (Below.refl _ _) _
 have X0 : wb.heap[w.heap.size]? = some (.cells #[.string y.pkg, .int .i64 y.major, .string y.mod, .slice At y.types.length ct, .slice Av y.vals.length cv] 50 (0, 0)) := by rw [hwb]; exact heap_alloc_new w _
 have X1 := (B0.block _ (Array.getElem?_eq_some_iff.1 hx).1).trans hx
 obtain ⟨y0, y1, y2⟩ := cq3 X0
 obtain ⟨x0, x1, x2⟩ := cq3 X1
 simp at y0 y1 y2 x0 x1 x2
 have HB0 := hZ B0
 have HWB := hZ hwb
 have hq := str_eq y.pkg x.pkg
 have hr := str_eq y.mod x.mod
 obtain ⟨b2, hb2⟩ : ∃ b, (y.major == x.major) = b := ⟨_, rfl⟩
 obtain ⟨b1, hb1⟩ : ∃ b, b = decide (y.pkg = x.pkg) := ⟨_, rfl⟩
 obtain ⟨b3, hb3⟩ : ∃ b, b = decide (y.mod = x.mod) := ⟨_, rfl⟩
 rw [<- hb1] at hq
 rw [<- hb3] at hr
 obtain ⟨V, hV⟩ : ∃ V, V = isIf x.pkg x.major x.mod y := ⟨_, rfl⟩
 have HV : Hid (V = (b1 && (b2 && b3))) := hZ (by rw [hV, hb1, hb3, <- hb2]; rfl)
 rw [<- hV]
 clear hx hwb B0 X0 X1 hb1 hb3 hV
 cases b1 with
 | false =>
  have RV : V = false := HV.out;subst RV;go_enter Tryz.func129, Tryz.ntmps129
  go_upto_region 1 with fail
  rw [<- HWB.out];go_wp2_with fail
  go_ret;exact ⟨rfl, HB0.out⟩
 | true =>
  cases b2 with
  | false =>
   have RV : V = false := HV.out;subst RV;go_enter Tryz.func129, Tryz.ntmps129
   go_upto_region 1 with fail
   rw [<- HWB.out];go_wp2_with fail
   go_ret;exact ⟨rfl, HB0.out⟩
  | true =>
   have RV : V = b3 := HV.out;subst RV;go_enter Tryz.func129, Tryz.ntmps129
   go_upto_region 1 with fail
   rw [<- HWB.out];go_wp2_with fail
   go_ret;exact ⟨by first | rfl | exact ret_bool rfl, HB0.out⟩
theorem pIf_index (A : Option Addr) (c : Nat) (l : List If) (x : Im) (xb : Nat) (w : World) (h : RowIn ifR w A l) (hl : l.length <= 9223372036854775807) (hx : w.heap[xb]? = some (.cells #[.string x.pkg, .int .i64 x.major, .string x.mod, .string x.asn] 71 (0, 0))) :
  Calls Tryz.prog 179 #[.slice A l.length c, .func (.func 129) #[] #[.pointer (some ⟨xb, 0, none⟩)]] w fun e w' => e = .returned (.int .i64 (optN (l.findIdx? (isIf x.pkg x.major x.mod)))) /\ Below w.heap.size w w' := by
 have HR := hZ h
 have HX0 := hZ hx
 obtain ⟨n, hn⟩ : ∃ n, n = l.length := ⟨_, rfl⟩
 have HN := hZ hn
 obtain ⟨V, hV⟩ : ∃ V, V = optN (l.findIdx? (isIf x.pkg x.major x.mod)) := ⟨_, rfl⟩
 have HV := hZ hV
 rw [<- hn] at hl ⊢
 rw [<- hV]
 clear h hn hx hV
 go_enter Tryz.func179, Tryz.ntmps179
 go_wp2_with fail
 go_loopw [8] (fun s8 wr => ∃ k : Nat, k <= n /\ s8 = .int .i64 k /\ Hid (∀ z ∈ l.take k, (isIf x.pkg x.major x.mod) z = false) /\ Hid (Below w.heap.size w wr)) (fun s8 _ => n - (intOf s8).toNat)
 case atStart => exact ⟨0, by omega, rfl, hZ (by simp), hZ (Below.refl _ _)⟩
 case round =>
  obtain ⟨k, hk, rfl, HNO, HB⟩ := hrel;obtain ⟨wo, rfl⟩ : ∃ wo : World, wo = wr := ⟨_, rfl⟩;by_cases hlt : k < n
  ·obtain ⟨y, hx⟩ : ∃ y, l[k]? = some y := ⟨_, List.getElem?_eq_getElem (by rw [<- HN.out]; exact hlt)⟩
   obtain ⟨g, o, At, ct, Av, cv, rfl, hg, a0, a1, a2, a3, a4, -⟩ := (HR.out.below HB.out).ifc hx;have IM := hZ (pIf_one y At ct Av cv x xb wo ((HB.out.block _ (Array.getElem?_eq_some_iff.1 HX0.out).1).trans HX0.out));have HY := hZ hx;have hk0 : (0 : Int) <= k := by omega
   have hk1 : (k : Int) < n := by omega
   obtain ⟨q, hq⟩ : ∃ q, (isIf x.pkg x.major x.mod) y = q := ⟨_, rfl⟩;rw [hq] at IM;have HQ := hZ hq;clear hq hx hg;cases q with
   | true =>
    have RV : V = (k : Int) := by rw [HV.out, idx_yes HY.out HNO.out HQ.out]; rfl
    subst RV;go_wp2_with fail
    refine IM.out.mono ?_; rintro e w2 ⟨rfl, hb2⟩
    have HB2 := hZ (below_over HB.out hb2);clear a0 a1 a2 a3 a4 hb2;go_wp2_with fail
    go_ret;exact ⟨rfl, HB2.out⟩
   | false =>
    have NX : Hid (∀ z ∈ l.take (k + 1), (isIf x.pkg x.major x.mod) z = false) := hZ (fun z hy => by
     rw [List.take_add_one, HY.out] at hy;rcases List.mem_append.1 hy with h | h
     ·exact HNO.out z h
     ·simp at h; rw [h]; exact HQ.out)
    go_wp2_with fail
    refine IM.out.mono ?_; rintro e w2 ⟨rfl, hb2⟩
    have HB2 := hZ (below_over HB.out hb2);clear a0 a1 a2 a3 a4 hb2;go_wp2_with fail
    go_roundw
    case rel => exact ⟨k + 1, by omega, by go_num, NX, HB2⟩
    case measure => simp [intOf]; omega
  ·have RV : V = -1 := by rw [HV.out, idx_no (fun z hz => HNO.out z (by rw [List.take_of_length_le (by rw [<- HN.out]; omega)]; exact hz))]; rfl
   subst RV;go_wp2_with fail
   go_ret;exact ⟨rfl, HB.out⟩
theorem pNm_one (y : Nm) (Bn : Option Addr) (cB : Nat) (Bs : Option Addr) (dB : Nat) (s : ByteArray) (xb : Nat) (w : World) (hx : w.heap[xb]? = some (.cells #[.string s] 9 (0, 0))) :
  Calls Tryz.prog 181 #[.agg #[.string y.name, .int .i64 y.typ.kind, .string y.typ.pkg, .int .i64 y.typ.major, .string y.typ.mod, .string y.typ.name, .slice Bn y.typ.names.length cB, .slice Bs y.typ.subs.length dB], .pointer (some ⟨xb, 0, none⟩)] w fun e w' => e = .returned (.bool (isNm s y)) /\ Below w.heap.size w w' := by
 obtain ⟨wb, hwb⟩ : ∃ wb, wb = w.alloc (.cells #[.string y.name, .int .i64 y.typ.kind, .string y.typ.pkg, .int .i64 y.typ.major, .string y.typ.mod, .string y.typ.name, .slice Bn y.typ.names.length cB, .slice Bs y.typ.subs.length dB] 57) := ⟨_, rfl⟩
 have B0 : Below w.heap.size w wb := by rw [hwb]; exact below_new (Below.refl _ _) _
 have X0 : wb.heap[w.heap.size]? = some (.cells #[.string y.name, .int .i64 y.typ.kind, .string y.typ.pkg, .int .i64 y.typ.major, .string y.typ.mod, .string y.typ.name, .slice Bn y.typ.names.length cB, .slice Bs y.typ.subs.length dB] 57 (0, 0)) := by rw [hwb]; exact heap_alloc_new w _
 have X1 := (B0.block _ (Array.getElem?_eq_some_iff.1 hx).1).trans hx
 have y0 := cZ X0 0
 have x0 := cZ X1 0
 simp at y0 x0
 have HB0 := hZ B0
 have HWB := hZ hwb
 have hq := str_eq y.name s
 obtain ⟨b1, hb1⟩ : ∃ b, b = decide (y.name = s) := ⟨_, rfl⟩
 rw [<- hb1] at hq
 have e1 : isNm s y = b1 := hb1.symm
 rw [e1]
 clear hx hwb B0 X0 X1 hb1 e1
 go_enter Tryz.func181, Tryz.ntmps181
 go_upto_region 1 with fail
 rw [<- HWB.out]
 go_wp2_with fail
 go_ret
 exact ⟨by first | rfl | exact ret_bool hq, HB0.out⟩
theorem pNm_index (A : Option Addr) (c : Nat) (l : List Nm) (s : ByteArray) (xb : Nat) (w : World) (h : RowIn nmR w A l) (hl : l.length <= 9223372036854775807) (hx : w.heap[xb]? = some (.cells #[.string s] 9 (0, 0))) :
  Calls Tryz.prog 213 #[.slice A l.length c, .func (.func 181) #[] #[.pointer (some ⟨xb, 0, none⟩)]] w fun e w' => e = .returned (.int .i64 (optN (l.findIdx? (isNm s)))) /\ Below w.heap.size w w' := by
 have HR := hZ h
 have HX0 := hZ hx
 obtain ⟨n, hn⟩ : ∃ n, n = l.length := ⟨_, rfl⟩
 have HN := hZ hn
 obtain ⟨V, hV⟩ : ∃ V, V = optN (l.findIdx? (isNm s)) := ⟨_, rfl⟩
 have HV := hZ hV
 rw [<- hn] at hl ⊢
 rw [<- hV]
 clear h hn hx hV
 go_enter Tryz.func213, Tryz.ntmps213
 go_wp2_with fail
 go_loopw [8] (fun s8 wr => ∃ k : Nat, k <= n /\ s8 = .int .i64 k /\ Hid (∀ z ∈ l.take k, (isNm s) z = false) /\ Hid (Below w.heap.size w wr)) (fun s8 _ => n - (intOf s8).toNat)
 case atStart => exact ⟨0, by omega, rfl, hZ (by simp), hZ (Below.refl _ _)⟩
 case round =>
  obtain ⟨k, hk, rfl, HNO, HB⟩ := hrel;obtain ⟨wo, rfl⟩ : ∃ wo : World, wo = wr := ⟨_, rfl⟩;by_cases hlt : k < n
  ·obtain ⟨y, hx⟩ : ∃ y, l[k]? = some y := ⟨_, List.getElem?_eq_getElem (by rw [<- HN.out]; exact hlt)⟩
   obtain ⟨g, o, Bn, cB, Bs, dB, rfl, hg, a0, a1, a2, a3, a4, a5, a6, a7, -⟩ := (HR.out.below HB.out).nm hx;have IM := hZ (pNm_one y Bn cB Bs dB s xb wo ((HB.out.block _ (Array.getElem?_eq_some_iff.1 HX0.out).1).trans HX0.out));have HY := hZ hx;have hk0 : (0 : Int) <= k := by omega
   have hk1 : (k : Int) < n := by omega
   obtain ⟨q, hq⟩ : ∃ q, (isNm s) y = q := ⟨_, rfl⟩;rw [hq] at IM;have HQ := hZ hq;clear hq hx hg;cases q with
   | true =>
    have RV : V = (k : Int) := by rw [HV.out, idx_yes HY.out HNO.out HQ.out]; rfl
    subst RV;go_wp2_with fail
    refine IM.out.mono ?_; rintro e w2 ⟨rfl, hb2⟩
    have HB2 := hZ (below_over HB.out hb2);clear a0 a1 a2 a3 a4 a5 a6 a7 hb2;go_wp2_with fail
    go_ret;exact ⟨rfl, HB2.out⟩
   | false =>
    have NX : Hid (∀ z ∈ l.take (k + 1), (isNm s) z = false) := hZ (fun z hy => by
     rw [List.take_add_one, HY.out] at hy;rcases List.mem_append.1 hy with h | h
     ·exact HNO.out z h
     ·simp at h; rw [h]; exact HQ.out)
    go_wp2_with fail
    refine IM.out.mono ?_; rintro e w2 ⟨rfl, hb2⟩
    have HB2 := hZ (below_over HB.out hb2);clear a0 a1 a2 a3 a4 a5 a6 a7 hb2;go_wp2_with fail
    go_roundw
    case rel => exact ⟨k + 1, by omega, by go_num, NX, HB2⟩
    case measure => simp [intOf]; omega
  ·have RV : V = -1 := by rw [HV.out, idx_no (fun z hz => HNO.out z (by rw [List.take_of_length_le (by rw [<- HN.out]; omega)]; exact hz))]; rfl
   subst RV;go_wp2_with fail
   go_ret;exact ⟨rfl, HB.out⟩
theorem pAs_one (y : Im)  (s : ByteArray) (xb : Nat) (w : World) (hx : w.heap[xb]? = some (.cells #[.string s] 9 (0, 0))) :
  Calls Tryz.prog 126 #[.agg #[.string y.pkg, .int .i64 y.major, .string y.mod, .string y.asn], .pointer (some ⟨xb, 0, none⟩)] w fun e w' => e = .returned (.bool (isAs s y)) /\ Below w.heap.size w w' := by
 obtain ⟨wb, hwb⟩ : ∃ wb, wb = w.alloc (.cells #[.string y.pkg, .int .i64 y.major, .string y.mod, .string y.asn] 71) := ⟨_, rfl⟩
 have B0 : Below w.heap.size w wb := by rw [hwb]; exact below_new (Below.refl _ _) _
 have X0 : wb.heap[w.heap.size]? = some (.cells #[.string y.pkg, .int .i64 y.major, .string y.mod, .string y.asn] 71 (0, 0)) := by rw [hwb]; exact heap_alloc_new w _
 have X1 := (B0.block _ (Array.getElem?_eq_some_iff.1 hx).1).trans hx
 have y3 := cZ X0 3
 have x0 := cZ X1 0
 simp at y3 x0
 have HB0 := hZ B0
 have HWB := hZ hwb
 have hq := str_eq y.asn s
 obtain ⟨b1, hb1⟩ : ∃ b, b = decide (y.asn = s) := ⟨_, rfl⟩
 rw [<- hb1] at hq
 have e1 : isAs s y = b1 := hb1.symm
 rw [e1]
 clear hx hwb B0 X0 X1 hb1 e1
 go_enter Tryz.func126, Tryz.ntmps126
 go_upto_region 1 with fail
 rw [<- HWB.out]
 go_wp2_with fail
 go_ret
 exact ⟨by first | rfl | exact ret_bool hq, HB0.out⟩
theorem pAs_index (A : Option Addr) (c : Nat) (l : List Im) (s : ByteArray) (xb : Nat) (w : World) (h : RowIn imR w A l) (hl : l.length <= 9223372036854775807) (hx : w.heap[xb]? = some (.cells #[.string s] 9 (0, 0))) :
  Calls Tryz.prog 95 #[.slice A l.length c, .func (.func 126) #[] #[.pointer (some ⟨xb, 0, none⟩)]] w fun e w' => e = .returned (.int .i64 (optN (l.findIdx? (isAs s)))) /\ Below w.heap.size w w' := by
 have HR := hZ h
 have HX0 := hZ hx
 obtain ⟨n, hn⟩ : ∃ n, n = l.length := ⟨_, rfl⟩
 have HN := hZ hn
 obtain ⟨V, hV⟩ : ∃ V, V = optN (l.findIdx? (isAs s)) := ⟨_, rfl⟩
 have HV := hZ hV
 rw [<- hn] at hl ⊢
 rw [<- hV]
 clear h hn hx hV
 go_enter Tryz.func95, Tryz.ntmps95
 go_wp2_with fail
 go_loopw [8] (fun s8 wr => ∃ k : Nat, k <= n /\ s8 = .int .i64 k /\ Hid (∀ z ∈ l.take k, (isAs s) z = false) /\ Hid (Below w.heap.size w wr)) (fun s8 _ => n - (intOf s8).toNat)
 case atStart => exact ⟨0, by omega, rfl, hZ (by simp), hZ (Below.refl _ _)⟩
 case round =>
  obtain ⟨k, hk, rfl, HNO, HB⟩ := hrel;obtain ⟨wo, rfl⟩ : ∃ wo : World, wo = wr := ⟨_, rfl⟩;by_cases hlt : k < n
  ·obtain ⟨y, hx⟩ : ∃ y, l[k]? = some y := ⟨_, List.getElem?_eq_getElem (by rw [<- HN.out]; exact hlt)⟩
   obtain ⟨g, o, rfl, hg, a0, a1, a2, a3, -⟩ := (HR.out.below HB.out).im hx;have IM := hZ (pAs_one y  s xb wo ((HB.out.block _ (Array.getElem?_eq_some_iff.1 HX0.out).1).trans HX0.out));have HY := hZ hx;have hk0 : (0 : Int) <= k := by omega
   have hk1 : (k : Int) < n := by omega
   obtain ⟨q, hq⟩ : ∃ q, (isAs s) y = q := ⟨_, rfl⟩;rw [hq] at IM;have HQ := hZ hq;clear hq hx hg;cases q with
   | true =>
    have RV : V = (k : Int) := by rw [HV.out, idx_yes HY.out HNO.out HQ.out]; rfl
    subst RV;go_wp2_with fail
    refine IM.out.mono ?_; rintro e w2 ⟨rfl, hb2⟩
    have HB2 := hZ (below_over HB.out hb2);clear a0 a1 a2 a3 hb2;go_wp2_with fail
    go_ret;exact ⟨rfl, HB2.out⟩
   | false =>
    have NX : Hid (∀ z ∈ l.take (k + 1), (isAs s) z = false) := hZ (fun z hy => by
     rw [List.take_add_one, HY.out] at hy;rcases List.mem_append.1 hy with h | h
     ·exact HNO.out z h
     ·simp at h; rw [h]; exact HQ.out)
    go_wp2_with fail
    refine IM.out.mono ?_; rintro e w2 ⟨rfl, hb2⟩
    have HB2 := hZ (below_over HB.out hb2);clear a0 a1 a2 a3 hb2;go_wp2_with fail
    go_roundw
    case rel => exact ⟨k + 1, by omega, by go_num, NX, HB2⟩
    case measure => simp [intOf]; omega
  ·have RV : V = -1 := by rw [HV.out, idx_no (fun z hz => HNO.out z (by rw [List.take_of_length_le (by rw [<- HN.out]; omega)]; exact hz))]; rfl
   subst RV;go_wp2_with fail
   go_ret;exact ⟨rfl, HB.out⟩
end Go.Proofs.YteecgiebimdbhaaGreatDoor
namespace Go.Proofs.YteecgiebimdbhaaGreatDoor
open Go Go.RowKit
open Go.Sort
section
variable {P : Program} {w : World}
end
theorem below_grown {B : Nat} {w w1 w2 : World} {v : Value} {e : TypeId} {z n : Nat} {xs : List Value} (hb : Below B w w1) (hB : B <= w1.heap.size) (hown : w1.ownsRow B e z v n xs) (hg : w1.grownBy w2 v.ownBlock) : Below B w w2 :=
  hb.trans ⟨hg.os, hg.tape, hg.output, hg.size, fun b h => hg.block b (Nat.lt_of_lt_of_le h hB) (fun e => by have := (hown.lt b e.symm).1; omega)⟩
end Go.Proofs.YteecgiebimdbhaaGreatDoor
namespace Go.Proofs.YteecgiebimdbhaaGreatDoor
open Go.RowKit Go.Shelf
open Go.Sort Go.Maps
open M
def ShL (l : List Value) (t : Ty) : Prop := ∃ (An : Option Addr) (cn : Nat) (As : Option Addr) (cs : Nat), l = [.int .i64 t.kind, .string t.pkg, .int .i64 t.major, .string t.mod, .string t.name, .slice An t.names.length cn, .slice As t.subs.length cs]
def OwnL (w : World) (lo : Nat) (v : Value) (xs : List Ty) : Prop :=
  ∃ C : List (List Value), C.length = xs.length /\ (∀ l, l ∈ C -> l.length = 7) /\ w.ownsRow lo 55 7 v xs.length C.flatten /\ ∀ (i : Nat) (l : List Value) (x : Ty), C[i]? = some l -> xs[i]? = some x -> ShL l x
end Go.Proofs.YteecgiebimdbhaaGreatDoor
namespace Go.Proofs.YteecgiebimdbhaaGreatDoor
open Go Go.RowKit Go.Shelf
open Go.Sort Go.Maps
open M
theorem findI_lt {env : List If} {p : ByteArray} {j : Int} {d : ByteArray} {k : Nat} (h : findI env p j d = some k) : k < env.length := by
  unfold findI at h
  rw [List.findIdx?_eq_some_iff_getElem] at h;exact h.1
theorem ofI_lt {l : List Nm} {s : ByteArray} {k : Nat} (h : ofI l s = some k) : k < l.length := by
  unfold ofI at h
  rw [List.findIdx?_eq_some_iff_getElem] at h;exact h.1
theorem zero_at (w : World) : TyAt w [.int .i64 0, .string ⟨#[]⟩, .int .i64 0, .string ⟨#[]⟩, .string ⟨#[]⟩, .slice none 0 0, .slice none 0 0] (.mk 0 ⟨#[]⟩ 0 ⟨#[]⟩ ⟨#[]⟩ [] []) :=
  .mk 0 ⟨#[]⟩ 0 ⟨#[]⟩ ⟨#[]⟩ [] [] none 0 none 0 (fun _ => [.int .i64 0, .string ⟨#[]⟩, .int .i64 0, .string ⟨#[]⟩, .string ⟨#[]⟩, .slice none 0 0, .slice none 0 0]) (by decide) (by decide) (by decide) (by decide) (by decide) (by decide) (fun i s h => by simp at h) (fun _ => rfl) (fun i t h => by simp at h) (fun i t h => by simp at h)
end Go.Proofs.YteecgiebimdbhaaGreatDoor
