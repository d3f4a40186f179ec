/-
  Several texts in one.
-/
import Derived.Test.YtddlmigofilejaaGreatK24
set_option maxRecDepth 100000
set_option maxHeartbeats 16000000
namespace Go.Proofs.YtddlmigofilejaaGreat
open Go
open M
theorem idx_find {α : Type} {p : α -> Bool} {x : α} : ∀ {l : List α}, l.find? p = some x ↔ ∃ k, l.findIdx? p = some k /\ l[k]? = some x
 | [] => by simp
 | a :: r => by
  cases hp : p a with
  | true => simp [List.find?_cons, List.findIdx?_cons, hp]
  | false =>
   rw [List.find?_cons, hp, List.findIdx?_cons, hp];simp only [Bool.false_eq_true, if_false];rw [idx_find (l := r)];constructor
   ·rintro ⟨k, h1, h2⟩
    exact ⟨k + 1, by rw [h1]; rfl, by simpa using h2⟩
   ·rintro ⟨k, h1, h2⟩
    cases e : r.findIdx? p with
    | none => rw [e] at h1; cases h1
    | some j =>
     rw [e] at h1;cases h1
     exact ⟨j, rfl, by simpa using h2⟩
theorem find_congr {α : Type} {p q : α -> Bool} : ∀ {l : List α}, (∀ x ∈ l, p x = q x) -> l.find? p = l.find? q
 | [], _ => rfl
 | a :: r, h => by
  rw [List.find?_cons, List.find?_cons, h a List.mem_cons_self, find_congr fun x hx => h x (List.mem_cons_of_mem _ hx)]
def getI (env : List If) (p : ByteArray) (j : Int) (d : ByteArray) : Option If := env.find? (isIf p j d)
theorem getI_app (a r : List If) (p : ByteArray) (j : Int) (d : ByteArray) : getI (a ++ r) p j d = (getI a p j d).or (getI r p j d) := List.find?_append
theorem isIf_of {p : ByteArray} {j : Int} {d : ByteArray} {x : If} (h1 : x.pkg = p) (h2 : x.major = j) : isIf p j d x = decide (x.mod = d) := by
 unfold isIf
 rw [decide_eq_true h1, h2]
 simp
theorem isIf_no {p : ByteArray} {j : Int} {d : ByteArray} {x : If} (h : ¬ (x.pkg = p /\ x.major = j)) : isIf p j d x = false := by
 rw [Bool.eq_false_iff]
 intro e
 unfold isIf at e
 simp only [Bool.and_eq_true, decide_eq_true_eq, beq_iff_eq] at e
 exact h ⟨e.1, e.2.1⟩
theorem getI_of {l : List If} {p : ByteArray} {j : Int} (h : ∀ x ∈ l, x.pkg = p /\ x.major = j) (d : ByteArray) : getI l p j d = ofMod l d := find_congr fun x hx => isIf_of (h x hx).1 (h x hx).2
theorem getI_no {l : List If} {p : ByteArray} {j : Int} (h : ∀ x ∈ l, ¬ (x.pkg = p /\ x.major = j)) (d : ByteArray) : getI l p j d = none := by
 unfold getI
 rw [List.find?_eq_none]
 intro x hx
 rw [isIf_no (h x hx)]; decide
theorem rowP_of {l : List If} {d : ByteArray} {x : If} (h : ofMod l d = some x) (t : Bool) : rowP l d t = rowOf t x := by unfold rowP; rw [h]
theorem env_up {a b rest : List If} {z : If} (hf : fairP a b = true) (hk : Keeps a b) (hz : a[0]? = some z) (hr : ∀ x ∈ rest, ¬ (x.pkg = z.pkg /\ x.major = z.major))
  {p : ByteArray} {j : Int} {d s : ByteArray} {i : If} {t : Bool} {x : Ty} (hi : getI (a ++ rest) p j d = some i) (hx : valAt (rowOf t i) s = some x) :
  ∃ (i' : If) (y : Ty), getI (b ++ rest) p j d = some i' /\ valAt (rowOf t i') s = some y /\ (x = y \/ t = false /\ SubR y x /\ mayT y = true /\ plainT y = true) := by
 obtain ⟨ma, mb, hs⟩ := fairP_parts hf
 have ha : ∀ y ∈ a, y.pkg = z.pkg /\ y.major = z.major := fun y hy => by
  obtain ⟨k, hk⟩ := List.getElem?_of_mem hy;exact mayPk_first ma hz k y hk
 have hb : ∀ y ∈ b, y.pkg = z.pkg /\ y.major = z.major := fun y hy => by
  obtain ⟨k, hk⟩ := List.getElem?_of_mem hy;obtain ⟨u, hu⟩ : ∃ u, b[0]? = some u := ⟨_, List.getElem?_eq_getElem (by have := (List.getElem?_eq_some_iff.1 hk).1; omega)⟩;obtain ⟨e1, e2⟩ := mayPk_first mb hu k y hk;obtain ⟨f1, f2⟩ := samePk_iff.1 (hs z u hz hu);exact ⟨e1.trans f1.symm, e2.trans f2.symm⟩
 rw [getI_app] at hi
 by_cases hp : z.pkg = p /\ z.major = j
 ·obtain ⟨rfl, rfl⟩ := hp
  rw [getI_no hr, Option.or_none, getI_of ha] at hi;rw [<- rowP_of hi] at hx;obtain ⟨y, hy, h⟩ := hk _ _ _ _ hx;cases e : ofMod b d with
  | none =>
   unfold rowP at hy
   rw [e] at hy;cases hy
  | some i' =>
   rw [rowP_of e] at hy;refine ⟨i', y, by rw [getI_app, getI_no hr, Option.or_none, getI_of hb]; exact e, hy, ?_⟩;rcases h with h | ⟨ht, h⟩
   ·exact .inl h
   ·obtain ⟨n, hn, -, rfl⟩ := valAt_mem hy
    have := mayIf_ok (mayPk_may mb (ofMod_mem e).1) (n := n) (by
     subst ht;exact .inr hn)
    exact .inr ⟨ht, h, this⟩
 ·have na : getI a p j d = none := getI_no (fun y hy e => by
   obtain ⟨e1, e2⟩ := ha y hy;exact hp ⟨e1.symm.trans e.1, e2.symm.trans e.2⟩) d
  have nb : getI b p j d = none := getI_no (fun y hy e => by
   obtain ⟨e1, e2⟩ := hb y hy;exact hp ⟨e1.symm.trans e.1, e2.symm.trans e.2⟩) d
  rw [na] at hi;exact ⟨i, x, by rw [getI_app, nb]; exact hi, hx, .inl rfl⟩
theorem envT_get {env : List If} {x : Im} {s : ByteArray} : envT env x s = (getI env x.pkg x.major x.mod).bind fun i => valAt (rowOf true i) s := by
 unfold envT
 cases e : findI env x.pkg x.major x.mod with
 | none =>
  have : getI env x.pkg x.major x.mod = none := by
   cases e2 : getI env x.pkg x.major x.mod with
   | none => rfl
   | some i =>
    obtain ⟨k, hk, -⟩ := idx_find.1 e2;unfold findI at e
    rw [e] at hk; cases hk
  rw [this]; rfl
 | some k =>
  have hk : k < env.length := findI_lt e;have h2 : env[k]? = some env[k] := List.getElem?_eq_getElem hk;have : getI env x.pkg x.major x.mod = some env[k] := idx_find.2 ⟨k, e, h2⟩
  rw [this]
  show (match env[k]? with
   | none => none
   | some i => match ofI i.types s with
    | none => none
    | some n => (i.types[n]?).map (·.typ)) = valAt env[k].types s
  rw [h2];dsimp only
  cases e3 : ofI env[k].types s with
  | none =>
   dsimp only
   cases e4 : valAt env[k].types s with
   | none => rfl
   | some t =>
    unfold valAt at e4
    obtain ⟨n, hn, -⟩ := Option.map_eq_some_iff.1 e4;obtain ⟨q, hq, -⟩ := idx_find.1 hn;unfold ofI at e3
    rw [e3] at hq; cases hq
  | some n =>
   dsimp only
   have hn : n < env[k].types.length := ofI_lt e3;have h3 : env[k].types[n]? = some env[k].types[n] := List.getElem?_eq_getElem hn;have : env[k].types.find? (isNm s) = some env[k].types[n] := idx_find.2 ⟨n, e3, h3⟩
   unfold valAt
   rw [this, h3]
section
variable {env env' : List If} (henv : ∀ (x : Im) (s : ByteArray) (t : Ty), envT env x s = some t -> envT env' x s = some t)
include henv
theorem there_up {m : Mo} {l t : Ty} (h : thereT m env l = some t) : thereT m env' l = some t := by
 unfold thereT at h ⊢
 cases e : impAt m l.mod with
 | none => rw [e] at h; cases h
 | some k =>
  rw [e] at h;dsimp only at h ⊢
  cases e2 : m.imps[k]? with
  | none => rw [e2] at h; cases h
  | some x =>
   rw [e2] at h;dsimp only at h ⊢
   cases e3 : envT env x l.name with
   | none => rw [e3] at h; cases h
   | some t' => rw [e3] at h; rw [henv _ _ _ e3]; exact h
theorem mean_up {m : Mo} {pkg : ByteArray} {major : Int} {y t : Ty} (h : meanT m pkg major env y = some t) : meanT m pkg major env' y = some t := by
 unfold meanT at h ⊢
 split
 ·rename_i hz; rw [if_pos hz] at h; exact h
 ·rename_i hz; rw [if_neg hz] at h; exact there_up henv h
theorem lacks_up {m : Mo} {L : List Ty} (h : lacksN m env L = false) : lacksN m env' L = false := by
 unfold lacksN at h ⊢
 rw [List.any_eq_false] at h ⊢
 intro x hx
 have := h x hx
 cases hz : decide (x.mod.size = 0) with
 | true => simp
 | false =>
  rw [hz] at this;cases e : thereT m env x with
  | none => rw [e] at this; exact absurd rfl this
  | some t => rw [there_up henv e]; simp
theorem ep_up {m : Mo} {pkg : ByteArray} {major : Int} {t u : Ty} (hn : env'.length <= 100) (h : EpIs m pkg major env t 0 u) : EpIs m pkg major env' t 0 u := by
 rcases h with ⟨h, -, -⟩ | ⟨h1, h2, h⟩
 ·cases h
 rcases h with ⟨h, -, -⟩ | ⟨hk, h⟩
 ·cases h
 rcases h with ⟨h, -, -⟩ | ⟨hl, hh, x, hx, h⟩
 ·cases h
 obtain ⟨o1, o2, o3⟩ := h1
 refine .inr ⟨⟨o1, o2, hn⟩, h2, .inr ⟨hk, .inr ⟨?_, hh, x, exp_more (fun y s => mean_up henv) hx, ?_⟩⟩⟩
 ·rw [List.any_eq_false] at hl ⊢
  intro s hs;rw [lacks_up henv (by simpa using hl s hs)]; decide
 ·rcases h with ⟨h, -⟩ | h
  ·cases h
  ·exact .inr h
end
theorem bump_safe {u : Us} {a b rest : List If} {z : If} {c : Int} (hf : fairP a b = true) (h2 : ofP (chP a b) <= 2) (hz : a[0]? = some z) (hl : rest.length <= 50) (hr : ∀ x ∈ rest, ¬ (x.pkg = z.pkg /\ x.major = z.major)) (h : UkIs u (a ++ rest) 0 c) : UkIs u (b ++ rest) 0 (-1) := by
 obtain ⟨h1, -, h3, h4⟩ := h.zero
 have hb := (mayPk_at (fairP_parts hf).2.1).1
 have hk := keeps_of h2
 have hlen : (b ++ rest).length <= 100 := by rw [List.length_append]; omega
 have henv : ∀ (x : Im) (s : ByteArray) (t : Ty), envT (a ++ rest) x s = some t -> envT (b ++ rest) x s = some t := fun x s t ht => by
  rw [envT_get] at ht ⊢;obtain ⟨i, hi, hv⟩ := Option.bind_eq_some_iff.1 ht;obtain ⟨i', y, hi', hv', e⟩ := env_up hf hk hz hr hi hv;rw [hi'];rcases e with rfl | ⟨e, -⟩
  ·exact hv'
  ·cases e
 refine .of h1 hlen h3 fun l hl => ?_
 rcases h4 l hl with ⟨-, h⟩ | ⟨e, t, he, hc⟩
 ·cases h
 obtain ⟨rfl, k, x, f, i, n, y, e1, e2, e3, e4, e5, e6, hfit⟩ := lineC_zero hc.symm
 have hg : getI (a ++ rest) x.pkg x.major x.mod = some i := idx_find.2 ⟨f, e3, e4⟩
 have hv : (rowU i l.kind).find? (isNm l.name) = some y := idx_find.2 ⟨n, e5, e6⟩
 have row : ∀ i : If, rowU i l.kind = rowOf (decide (l.kind = 2)) i := fun i => by
  unfold rowU rowOf
  by_cases h : l.kind = 2
  ·rw [if_pos h, decide_eq_true h]; rfl
  ·rw [if_neg h, decide_eq_false h]; rfl
 rw [row] at hv
 obtain ⟨i', y', hi', hv', hy⟩ := env_up hf hk hz hr (s := l.name) (t := decide (l.kind = 2)) (x := y.typ) hg (by unfold valAt; rw [hv]; rfl)
 obtain ⟨f', e3', e4'⟩ := idx_find.1 hi'
 unfold valAt at hv'
 obtain ⟨y2, hv2, rfl⟩ := Option.map_eq_some_iff.1 hv'
 rw [<- row] at hv2
 obtain ⟨n', e5', e6'⟩ := idx_find.1 hv2
 refine .inr ⟨0, t, ep_up henv hlen he, (lineC_of e1 e2 e3' e4' e5' e6' ?_).symm⟩
 rcases hy with hy | ⟨ht, hs, hm, hp⟩
 ·rw [<- hy]; exact hfit
 ·have hk2 : l.kind ≠ 2 := of_decide_eq_false ht
  obtain ⟨-, -, -, m4⟩ := mayU_parts h1;obtain ⟨-, -, hkk⟩ := mayLn_sorts (m4 l hl)
  have hk1 : l.kind = 1 := by
   rcases hkk with h | h
   ·exact h.1
   ·exact absurd h.1 hk2
  unfold fitsU at hfit ⊢
  rw [if_pos hk1, Bool.and_eq_true] at hfit;rw [if_pos hk1, hm, hp, Bool.and_self, Bool.true_and];exact subB_iff.2 (le_trans (up := true) hs (subB_iff.1 hfit.2))
end Go.Proofs.YtddlmigofilejaaGreat
namespace Go.Proofs.YtddlmigofilejaaGreat
open Go Go.RowKit
open M
theorem modU_may {u : Us} (h : mayU u = true) : mayM (modU u) = true := by
  obtain ⟨h1, -, h3, -⟩ := mayU_parts h;unfold mayM modU
  simp only [Bool.and_eq_true, decide_eq_true_eq, List.all_eq_true];exact ⟨by decide +kernel, h1, by simp, h3, by simp⟩
theorem modU_ok {u : Us} (h : ∀ i, i < u.imps.length -> dupB (·.asn) u.imps i = false) : Ok7 (modU u) :=
  ⟨h, fun i hi => by simp [modU] at hi, fun i d hd => by simp [modU] at hd, fun i d hd => by simp [modU] at hd, fun i j d e hd => by simp [modU] at hd⟩
theorem modU_mayN {u : Us} {env : List If} (h : mayU u = true) (hd : ∀ i, i < u.imps.length -> dupB (·.asn) u.imps i = false) (he : env.length <= 100) : MayN (modU u) nmC 1 env :=
  ⟨⟨modU_may h, modU_ok hd⟩, by show mayT (.mk 9 nmC 1 nmC ⟨#[84]⟩ [] []) = true; decide +kernel, he⟩
theorem mean_bare {imps : List Im} {n n' p p' : ByteArray} {j j' : Int} {env : List If} {y s : Ty} (h : meanT ⟨n, imps, []⟩ p j env y = some s) : meanT ⟨n', imps, []⟩ p' j' env y = some s := by
  unfold meanT at h ⊢
  split
  · rename_i hz
    rw [if_pos hz] at h;cases h
  · rename_i hz
    rw [if_neg hz] at h;exact h
theorem ep_as {imps : List Im} {n n' p p' : ByteArray} {j j' : Int} {env : List If} {t u : Ty} {c : Int} (hM : MayN ⟨n, imps, []⟩ p j env) (hM' : MayN ⟨n', imps, []⟩ p' j' env) (h : EpIs ⟨n, imps, []⟩ p j env t c u) : EpIs ⟨n', imps, []⟩ p' j' env t c u := by
  rcases h with ⟨h1, h2, h⟩ | ⟨-, h2, h⟩
  · exact .inl ⟨h1, h2, fun e => h ⟨hM, e.2⟩⟩
  · refine .inr ⟨hM', h2, ?_⟩
    rcases h with h | ⟨hk, h⟩
    · exact .inl h
    · refine .inr ⟨hk, ?_⟩
      rcases h with h | ⟨hl, hh, x, hx, h⟩
      · exact .inl h
      · exact .inr ⟨hl, hh, x, exp_more (fun y s => mean_bare) hx, h⟩
theorem modU_as {u : Us} {env : List If} {n p : ByteArray} {j : Int} {t x : Ty} {c : Int} (hu : mayU u = true) (hd : ∀ i, i < u.imps.length -> dupB (·.asn) u.imps i = false) (hM : MayN ⟨n, u.imps, []⟩ p j env) (h : EpIs ⟨n, u.imps, []⟩ p j env t c x) : EpIs (modU u) nmC 1 env t c x :=
  ep_as hM (modU_mayN hu hd hM.2.2) h
noncomputable def fitsC (k : Int) (y t : Ty) : Bool := if k = 2 then mayT y && mayT t && sameT y t else subP y t
theorem fitsC_eq {k : Int} (hk : k = 1 \/ k = 2) {y t : Ty} (hm : mayT t = true) (hp : plainT t = true) : fitsC k y t = fitsU k y t := by
  unfold fitsC fitsU
  rcases hk with rfl | rfl
  · rw [if_neg (by decide), if_pos rfl]
    unfold subP
    rw [hm, hp, Bool.and_true, Bool.and_true]
  · rw [if_pos rfl, if_neg (by decide), hm]
    by_cases e : y = t
    · subst e; rw [hm, hp]
    · rw [sameT_no e]; simp
noncomputable def codeL (imps : List Im) (env : List If) (l : Ln) (c : Int) (t : Ty) : Int :=
  match imps.findIdx? (isAs l.mod) with
  | none => 4
  | some k => if c = 4 then 4 else match imps[k]? with
    | none => 9
    | some x => match ofI (rowU (gotI env x) l.kind) l.name with
      | none => 9
      | some _ => if c ≠ 0 then c else if fitsC l.kind (gotT (rowU (gotI env x) l.kind) l.name) t = true then 0 else 12
theorem codeL_eq {u : Us} {env : List If} {l : Ln} {c : Int} {t : Ty} (hk : l.kind = 1 \/ l.kind = 2) (h : c = 0 -> mayT t = true /\ plainT t = true) : codeL u.imps env l c t = lineC u env l c t := by
  unfold codeL lineC
  rw [show impAt (modU u) l.mod = u.imps.findIdx? (isAs l.mod) from rfl];cases e1 : u.imps.findIdx? (isAs l.mod) with
  | none => rfl
  | some k =>
    dsimp only
    by_cases h4 : c = 4
    · rw [if_pos h4, if_pos h4]
    rw [if_neg h4, if_neg h4];cases e2 : u.imps[k]? with
    | none => rfl
    | some x =>
      dsimp only
      cases e3 : findI env x.pkg x.major x.mod with
      | none =>
        rw [gotI_no e3, show rowU zIf l.kind = [] by unfold rowU; split <;> rfl];rfl
      | some f =>
        obtain ⟨i, hi⟩ : ∃ i, env[f]? = some i := ⟨_, List.getElem?_eq_getElem (findI_lt e3)⟩;rw [gotI_at e3 hi];dsimp only
        rw [hi];dsimp only
        cases e5 : ofI (rowU i l.kind) l.name with
        | none => rfl
        | some n =>
          obtain ⟨y, hy⟩ : ∃ y, (rowU i l.kind)[n]? = some y := ⟨_, List.getElem?_eq_getElem (ofI_lt e5)⟩;rw [gotT_at e5 hy];dsimp only
          rw [hy];dsimp only
          by_cases h0 : c = 0
          · obtain ⟨hm, hp⟩ := h h0
            rw [fitsC_eq hk hm hp]
          · rw [if_pos h0, if_pos h0]
end Go.Proofs.YtddlmigofilejaaGreat
namespace Go.Proofs.YtddlmigofilejaaGreat
open Go.RowKit Go.Extern.Stop Go.Stop Go.Extern
theorem sp_noIsC (v : Value) (xT : TypeId) (w : World) : (Instr.typeAssert (.iface 33 v) xT 169 true).run Tryz.prog w = .ok (.tuple #[.nilIface, .bool false]) w := run_typeAssert_lacksB Tryz.underlying169 (by kernel_rfl) (by kernel_rfl) v xT w
theorem sp_noUnwrapC (v : Value) (xT : TypeId) (w : World) : (Instr.typeAssert (.iface 33 v) xT 172 true).run Tryz.prog w = .ok (.tuple #[.nilIface, .bool false]) w := run_typeAssert_lacksB Tryz.underlying172 (by kernel_rfl) (by kernel_rfl) v xT w
theorem sp_noUnwrapsC (v : Value) (xT : TypeId) (w : World) : (Instr.typeAssert (.iface 33 v) xT 174 true).run Tryz.prog w = .ok (.tuple #[.nilIface, .bool false]) w := run_typeAssert_lacksB Tryz.underlying174 (by kernel_rfl) (by kernel_rfl) v xT w
theorem isCode_any (c d : Int) (w : World) :
    Calls Tryz.prog 62 #[.iface 33 (.int .i64 c), .iface 33 (.int .i64 d)] w fun e w' => e = .returned (.bool (c == d)) /\ w' = w := by
  have h8 := @run_callFunc_extern Tryz.prog 91 _ ReflectliteType.typeOf Tryz.func91 (by kernel_rfl) (by kernel_rfl) (by kernel_rfl) (by kernel_rfl);have h32 := @run_callFunc_extern Tryz.prog 215 _ (ReflectliteType.method fun t => do Rtype.noPackHeld "Comparable" t; pure (.bool (<- typeInfo t).comparable)) Tryz.func215 (by kernel_rfl) (by kernel_rfl) (by kernel_rfl) (by kernel_rfl);have tT := sp_typeOfC;have cT := sp_comparableC;have mR := sp_methodComparable;have nI := sp_noIsC;have nU := sp_noUnwrapC;have nV := sp_noUnwrapsC;have heq := Lib.run_eql_iface_int (P := Tryz.prog) (k := .i64) w c d Tryz.underlying27 sp_comp Tryz.underlying33;obtain ⟨q, hq⟩ : ∃ q, (c == d) = q := ⟨_, rfl⟩;rw [hq] at heq ⊢;clear hq;cases q with
  | true =>
    go_enter Tryz.func62, Tryz.ntmps62
    go_wp2
    refine wp_loop_rounds 1 ?_;rw [rounds_succ];go_wp2
    go_ret;exact ⟨rfl, rfl⟩
  | false =>
    go_enter Tryz.func62, Tryz.ntmps62
    go_wp2
    refine wp_loop_rounds 1 ?_;rw [rounds_succ];go_wp2
    go_ret;exact ⟨rfl, rfl⟩
theorem isNil_any (d : Int) (w : World) :
    Calls Tryz.prog 62 #[.nilIface, .iface 33 (.int .i64 d)] w fun e w' => e = .returned (.bool false) /\ w' = w := by
  have hne : ∀ w : World, (binOp .eql 27 .nilIface (.iface 33 (.int .i64 d))).run Tryz.prog w = .ok (.bool false) w := fun w => by kernel_rfl
  go_enter Tryz.func62, Tryz.ntmps62
  go_wp2
  go_ret;exact ⟨rfl, rfl⟩
end Go.Proofs.YtddlmigofilejaaGreat
namespace Go.Proofs.YtddlmigofilejaaGreat
open Go Go.RowKit Go.Shelf
open Go.Sort Go.Maps
open M
theorem mayT_many11 {t : Ty} (h : mayT t = true) : many t <= 500 := by
  unfold mayT at h
  simp only [Bool.and_eq_true, decide_eq_true_eq] at h;exact h.1.2
theorem isErr_any (c d : Int) (hd : d ≠ 0) (w : World) : Calls Tryz.prog 62 #[errV c, .iface 33 (.int .i64 d)] w fun e w' => e = .returned (.bool (c == d)) /\ w' = w := by
  by_cases h : c = 0
  · subst h
    rw [show errV 0 = .nilIface by unfold errV; rw [if_pos rfl], show ((0 : Int) == d) = false by simp; exact fun e => hd e.symm];exact isNil_any d w
  · rw [show errV c = .iface 33 (.int .i64 c) by unfold errV; rw [if_neg h]]
    exact isCode_any c d w
theorem comesTo11_any (imps : List Im) (env : List If) (t : Ty) (lt : List Value) (Ai : Option Addr) (ci : Nat) (Ae : Option Addr) (ce : Nat) (w : World) (hI : RowIn imR w Ai imps) (hz : imps.length <= 9223372036854775807) (hci : imps.length <= ci) (hE : RowIn ifR w Ae env) (hel : env.length <= 9223372036854775807) (hT : TyAt w lt t) :
    Calls Tryz.prog 61 #[.agg lt.toArray, .slice Ai imps.length ci, .slice Ae env.length ce] w (EpOut ⟨⟨#[109]⟩, imps, []⟩ ⟨#[112]⟩ 1 env t w) := by
  have HT := hZ hT;obtain ⟨An, cA, As, cS, rfl, -⟩ := hT.parts;obtain ⟨W2, hW2, B2, O0, O1, hl2⟩ := two_boxes w #[.int .i64 t.kind, .string t.pkg, .int .i64 t.major, .string t.mod, .string t.name, .slice An t.names.length cA, .slice As t.subs.length cS] #[.int .i64 0, .string ⟨#[]⟩, .int .i64 0, .string ⟨#[]⟩, .string ⟨#[]⟩, .slice none 0 0, .slice none 0 0] 50 50
  have EX0 : Calls Tryz.prog 90 #[.agg #[.string ⟨#[109]⟩, .slice Ai imps.length ci, .slice none 0 0], .string ⟨#[112]⟩, .int .i64 1, .slice Ae env.length ce, .agg #[.int .i64 t.kind, .string t.pkg, .int .i64 t.major, .string t.mod, .string t.name, .slice An t.names.length cA, .slice As t.subs.length cS]] W2 (EpOut ⟨⟨#[109]⟩, imps, []⟩ ⟨#[112]⟩ 1 env t W2) :=
    expand8_any ⟨⟨#[109]⟩, imps, []⟩ ⟨#[112]⟩ 1 env Ai ci none 0 Ae ce t [.int .i64 t.kind, .string t.pkg, .int .i64 t.major, .string t.mod, .string t.name, .slice An t.names.length cA, .slice As t.subs.length cS] W2 ⟨Ai, ci, none, 0, rfl, (show (1 : Nat) <= 9223372036854775807 by decide), hz, (show (0 : Nat) <= 9223372036854775807 by decide), hI.below B2, fun i x h => by simp at h⟩ (CapsAt.of (m := ⟨⟨#[109]⟩, imps, []⟩) hci (Nat.le_refl 0) rfl) (by decide) (hE.below B2) hel (HT.out.keep B2) (fun d hd => by simp at hd)
  have EX := hZ EX0;obtain ⟨z0, z1, z2, z3, z4, z5, z6⟩ := cq7 O0;simp at z0 z1 z2 z3 z4 z5 z6;have HB2 := hZ B2;have HO1 := hZ O1;have HW := hZ hW2;have s2 : w.heap.size + 1 < W2.heap.size := hl2;clear hT hI hE hW2 B2 O0 O1 EX0;go_enter Tryz.func61, Tryz.ntmps61
  go_upto_region 1 with fail
  rw [<- HW.out];clear HW;go_wp2_with (first | fail)
  refine EX.out.mono ?_; rintro e w3 ⟨c, u, l, hep, rfl, hu, hb3⟩
  obtain ⟨Bn, cB, Bs, cT, rfl, -⟩ := hu.parts;have X3 := (hb3.block _ s2).trans HO1.out;have HX3 := hZ X3
  have FIN : Hid (EpOut ⟨⟨#[109]⟩, imps, []⟩ ⟨#[112]⟩ 1 env t w (.returned (.tuple #[.agg #[.int .i64 u.kind, .string u.pkg, .int .i64 u.major, .string u.mod, .string u.name, .slice Bn u.names.length cB, .slice Bs u.subs.length cT], errV c])) (w3.setRow (w.heap.size + 1) #[.int .i64 u.kind, .string u.pkg, .int .i64 u.major, .string u.mod, .string u.name, .slice Bn u.names.length cB, .slice Bs u.subs.length cT])) := hZ
    ⟨c, u, [.int .i64 u.kind, .string u.pkg, .int .i64 u.major, .string u.mod, .string u.name, .slice Bn u.names.length cB, .slice Bs u.subs.length cT], hep, rfl, hu.move (by simp) fun b hb hS => ⟨fun e => hS (by omega), setRow_other _ _ _ _ (fun e => by subst e; exact hS s2)⟩, setRow_below (below_over HB2.out hb3) (by omega) _⟩
  clear hep hu hb3 EX z0 z1 z2 z3 z4 z5 z6;go_wp2_with (first | (((with_reducible refine wpList_putRow 50 (w.heap.size + 1) #[.int .i64 u.kind, .string u.pkg, .int .i64 u.major, .string u.mod, .string u.name, .slice Bn u.names.length cB, .slice Bs u.subs.length cT] _ _ X3 ?_ ?_ ?_ ?_ ?_ ?_); exact tySize; rfl; exact tyOne; iterate 2 (focus (first | (go_simp; done) | rfl)))))
  exact ret_agg (fn := Tryz.f61) (vs := [.int .i64 u.kind, .string u.pkg, .int .i64 u.major, .string u.mod, .string u.name, .slice Bn u.names.length cB, .slice Bs u.subs.length cT]) (b := w.heap.size + 1) rfl rfl rfl Tryz.underlying50 (by kernel_rfl) (cell7 (setRow_heap w3 (w.heap.size + 1) _ _ _ _ HX3.out)) rfl FIN.out
theorem rowU_two (x : If) : rowU x 2 = x.types := by unfold rowU; rw [if_pos rfl]
theorem rowU_one {x : If} {k : Int} (h : k ≠ 2) : rowU x k = x.vals := by unfold rowU; rw [if_neg h]
theorem named11_any (x : If) (At : Option Addr) (ct : Nat) (Av : Option Addr) (cv : Nat) (k : Int) (m s : ByteArray) (t : Ty) (An As : Option Addr) (cA cS : Nat) (w0 w : World) (hx : ifE w0 [.string x.pkg, .int .i64 x.major, .string x.mod, .slice At x.types.length ct, .slice Av x.vals.length cv] x) (hw : Below w0.heap.size w0 w) :
    Calls Tryz.prog 64 #[.agg #[.string x.pkg, .int .i64 x.major, .string x.mod, .slice At x.types.length ct, .slice Av x.vals.length cv], .agg #[.int .i64 k, .string m, .string s, .int .i64 t.kind, .string t.pkg, .int .i64 t.major, .string t.mod, .string t.name, .slice An t.names.length cA, .slice As t.subs.length cS]] w (OfOut w0 w (rowU x k) s) := by
  obtain ⟨At', ct', Av', cv', e0, -, -, z1, z2, hT, hV⟩ := hx;simp only [List.cons.injEq, Value.slice.injEq, and_true, true_and] at e0;obtain ⟨⟨rfl, rfl⟩, rfl, rfl⟩ := e0;obtain ⟨W2, hW2, B2, O0, O1, hl2⟩ := two_boxes w #[.string x.pkg, .int .i64 x.major, .string x.mod, .slice At x.types.length ct, .slice Av x.vals.length cv] #[.int .i64 k, .string m, .string s, .int .i64 t.kind, .string t.pkg, .int .i64 t.major, .string t.mod, .string t.name, .slice An t.names.length cA, .slice As t.subs.length cS] 44 68;have s2 : W2.heap.size = w.heap.size + 1 + 1 := by rw [hW2]; simp
  obtain ⟨W3, hW3⟩ : ∃ W3, W3 = W2.alloc (.cells #[.int .i64 0, .string ⟨#[]⟩, .int .i64 0, .string ⟨#[]⟩, .string ⟨#[]⟩, .slice none 0 0, .slice none 0 0] 50) := ⟨_, rfl⟩;have B3 : Below W2.heap.size W2 W3 := by rw [hW3]; exact below_new (Below.refl _ _) _
  have s3 : W3.heap.size = w.heap.size + 1 + 1 + 1 := by rw [hW3]; simp [s2]
  have O2 : W3.heap[w.heap.size + 1 + 1]? = some (.cells #[.int .i64 0, .string ⟨#[]⟩, .int .i64 0, .string ⟨#[]⟩, .string ⟨#[]⟩, .slice none 0 0, .slice none 0 0] 50 (0, 0)) := by rw [hW3, <- s2]; exact heap_alloc_new W2 _
  have HB3 : Hid (Below w.heap.size w W3) := hZ (below_over B2 B3);have X0 := (B3.block w.heap.size (by omega)).trans O0;have X1 := (B3.block (w.heap.size + 1) (by omega)).trans O1;have x3 := cZ X0 3;have x4 := cZ X0 4;have y0 := cZ X1 0;have y2 := cZ X1 2;simp at x3 x4 y0 y2;have HO2 := hZ O2;have HW : Hid (((w.alloc (.cells #[.string x.pkg, .int .i64 x.major, .string x.mod, .slice At x.types.length ct, .slice Av x.vals.length cv] 44)).alloc (.cells #[.int .i64 k, .string m, .string s, .int .i64 t.kind, .string t.pkg, .int .i64 t.major, .string t.mod, .string t.name, .slice An t.names.length cA, .slice As t.subs.length cS] 68)).alloc (.cells #[.int .i64 0, .string ⟨#[]⟩, .int .i64 0, .string ⟨#[]⟩, .string ⟨#[]⟩, .slice none 0 0, .slice none 0 0] 50) = W3) := hZ (by rw [hW3, hW2]);have LT := hZ (lkType_any At ct x.types s w0 W3 hT (below_over hw HB3.out) z1);have LV := hZ (lkType_any Av cv x.vals s w0 W3 hV (below_over hw HB3.out) z2);have hl3 : w.heap.size + 1 + 1 < W3.heap.size := by omega
  clear hT hV hw hW2 hW3 B2 B3 O0 O1 O2 s2 s3 hl2 X0 X1;by_cases hk : k = 2
  · subst hk
    rw [rowU_two];go_enter Tryz.func64, Tryz.ntmps64
    go_upto_region 1 with fail
    rw [HW.out];clear HW;go_wp2_with (first | fail)
    refine LT.out.mono ?_; rintro e w4 ⟨l, rfl, hL, hb4⟩
    obtain ⟨Bn, cB, Bs, cT, rfl, -⟩ := (hL w0 (Below.refl _ _)).parts;obtain ⟨b, hb⟩ : ∃ b, b = gotT x.types s := ⟨_, rfl⟩;have HL := hZ hL;obtain ⟨q, hq⟩ : ∃ q, (ofI x.types s).isSome = q := ⟨_, rfl⟩;have X4 := (hb4.block _ hl3).trans HO2.out;have HX4 := hZ X4;have FIN : Hid (OfOut w0 w x.types s (.returned (.tuple #[.agg #[.int .i64 b.kind, .string b.pkg, .int .i64 b.major, .string b.mod, .string b.name, .slice Bn b.names.length cB, .slice Bs b.subs.length cT], .bool q])) (w4.setRow (w.heap.size + 1 + 1) #[.int .i64 b.kind, .string b.pkg, .int .i64 b.major, .string b.mod, .string b.name, .slice Bn b.names.length cB, .slice Bs b.subs.length cT])) := hZ ⟨[.int .i64 b.kind, .string b.pkg, .int .i64 b.major, .string b.mod, .string b.name, .slice Bn b.names.length cB, .slice Bs b.subs.length cT], by rw [hq], by rw [hb]; exact HL.out, setRow_below (below_over HB3.out hb4) (by omega) _⟩;rw [hq, <- hb];clear hb hq hL hb4 LT LV x3 x4 y0 y2;go_wp2_with (first | (((with_reducible refine wpList_putRow 50 (w.heap.size + 1 + 1) #[.int .i64 b.kind, .string b.pkg, .int .i64 b.major, .string b.mod, .string b.name, .slice Bn b.names.length cB, .slice Bs b.subs.length cT] _ _ X4 ?_ ?_ ?_ ?_ ?_ ?_); exact tySize; rfl; exact tyOne; iterate 2 (focus (first | (go_simp; done) | rfl)))))
    exact ret_agg (fn := Tryz.f64) (vs := [.int .i64 b.kind, .string b.pkg, .int .i64 b.major, .string b.mod, .string b.name, .slice Bn b.names.length cB, .slice Bs b.subs.length cT]) (b := w.heap.size + 1 + 1) rfl rfl rfl Tryz.underlying50 (by kernel_rfl) (cell7 (setRow_heap w4 (w.heap.size + 1 + 1) _ _ _ _ HX4.out)) rfl FIN.out
  · rw [rowU_one hk]
    have e2 : (k == 2) = false := by simpa using hk
    clear hk;go_enter Tryz.func64, Tryz.ntmps64
    go_upto_region 1 with fail
    rw [HW.out];clear HW;go_wp2_with (first | fail)
    refine LV.out.mono ?_; rintro e w4 ⟨l, rfl, hL, hb4⟩
    obtain ⟨Bn, cB, Bs, cT, rfl, -⟩ := (hL w0 (Below.refl _ _)).parts;obtain ⟨b, hb⟩ : ∃ b, b = gotT x.vals s := ⟨_, rfl⟩;have HL := hZ hL;obtain ⟨q, hq⟩ : ∃ q, (ofI x.vals s).isSome = q := ⟨_, rfl⟩;have X4 := (hb4.block _ hl3).trans HO2.out;have HX4 := hZ X4;have FIN : Hid (OfOut w0 w x.vals s (.returned (.tuple #[.agg #[.int .i64 b.kind, .string b.pkg, .int .i64 b.major, .string b.mod, .string b.name, .slice Bn b.names.length cB, .slice Bs b.subs.length cT], .bool q])) (w4.setRow (w.heap.size + 1 + 1) #[.int .i64 b.kind, .string b.pkg, .int .i64 b.major, .string b.mod, .string b.name, .slice Bn b.names.length cB, .slice Bs b.subs.length cT])) := hZ ⟨[.int .i64 b.kind, .string b.pkg, .int .i64 b.major, .string b.mod, .string b.name, .slice Bn b.names.length cB, .slice Bs b.subs.length cT], by rw [hq], by rw [hb]; exact HL.out, setRow_below (below_over HB3.out hb4) (by omega) _⟩;rw [hq, <- hb];clear hb hq hL hb4 LT LV x3 x4 y0 y2;go_wp2_with (first | (((with_reducible refine wpList_putRow 50 (w.heap.size + 1 + 1) #[.int .i64 b.kind, .string b.pkg, .int .i64 b.major, .string b.mod, .string b.name, .slice Bn b.names.length cB, .slice Bs b.subs.length cT] _ _ X4 ?_ ?_ ?_ ?_ ?_ ?_); exact tySize; rfl; exact tyOne; iterate 2 (focus (first | (go_simp; done) | rfl)))))
    exact ret_agg (fn := Tryz.f64) (vs := [.int .i64 b.kind, .string b.pkg, .int .i64 b.major, .string b.mod, .string b.name, .slice Bn b.names.length cB, .slice Bs b.subs.length cT]) (b := w.heap.size + 1 + 1) rfl rfl rfl Tryz.underlying50 (by kernel_rfl) (cell7 (setRow_heap w4 (w.heap.size + 1 + 1) _ _ _ _ HX4.out)) rfl FIN.out
theorem fits11_any (k : Int) (m s : ByteArray) (t a b : Ty) (Cn Cs : Option Addr) (cC cD : Nat) (la lb : List Value) (w : World) (ha : TyAt w la a) (hb : TyAt w lb b) :
    Calls Tryz.prog 65 #[.agg #[.int .i64 k, .string m, .string s, .int .i64 t.kind, .string t.pkg, .int .i64 t.major, .string t.mod, .string t.name, .slice Cn t.names.length cC, .slice Cs t.subs.length cD], .agg la.toArray, .agg lb.toArray] w fun e w' => e = .returned (.bool (fitsC k a b)) /\ Below w.heap.size w w' := by
  have HA := hZ ha;have HBt := hZ hb;obtain ⟨An, cA, As, cS, rfl, -⟩ := ha.parts;obtain ⟨Bn, cB, Bs, cT, rfl, -⟩ := hb.parts;obtain ⟨W2, hW2, B2, O0, O1, hl2⟩ := two_boxes w #[.int .i64 k, .string m, .string s, .int .i64 t.kind, .string t.pkg, .int .i64 t.major, .string t.mod, .string t.name, .slice Cn t.names.length cC, .slice Cs t.subs.length cD] #[.int .i64 a.kind, .string a.pkg, .int .i64 a.major, .string a.mod, .string a.name, .slice An a.names.length cA, .slice As a.subs.length cS] 68 50;have s2 : W2.heap.size = w.heap.size + 1 + 1 := by rw [hW2]; simp
  obtain ⟨W3, hW3⟩ : ∃ W3, W3 = W2.alloc (.cells #[.int .i64 b.kind, .string b.pkg, .int .i64 b.major, .string b.mod, .string b.name, .slice Bn b.names.length cB, .slice Bs b.subs.length cT] 50) := ⟨_, rfl⟩;have B3 : Below W2.heap.size W2 W3 := by rw [hW3]; exact below_new (Below.refl _ _) _
  have O2 : W3.heap[w.heap.size + 1 + 1]? = some (.cells #[.int .i64 b.kind, .string b.pkg, .int .i64 b.major, .string b.mod, .string b.name, .slice Bn b.names.length cB, .slice Bs b.subs.length cT] 50 (0, 0)) := by rw [hW3, <- s2]; exact heap_alloc_new W2 _
  have HB3 : Hid (Below w.heap.size w W3) := hZ (below_over B2 B3);have X0 := (B3.block w.heap.size (by omega)).trans O0;have X1 := (B3.block (w.heap.size + 1) (by omega)).trans O1;have x0 := cZ X0 0;obtain ⟨y0, y1, y2, y3, y4, y5, y6⟩ := cq7 X1;obtain ⟨z0, z1, z2, z3, z4, z5, z6⟩ := cq7 O2;simp at x0 y0 y1 y2 y3 y4 y5 y6 z0 z1 z2 z3 z4 z5 z6;have HW : Hid (((w.alloc (.cells #[.int .i64 k, .string m, .string s, .int .i64 t.kind, .string t.pkg, .int .i64 t.major, .string t.mod, .string t.name, .slice Cn t.names.length cC, .slice Cs t.subs.length cD] 68)).alloc (.cells #[.int .i64 a.kind, .string a.pkg, .int .i64 a.major, .string a.mod, .string a.name, .slice An a.names.length cA, .slice As a.subs.length cS] 50)).alloc (.cells #[.int .i64 b.kind, .string b.pkg, .int .i64 b.major, .string b.mod, .string b.name, .slice Bn b.names.length cB, .slice Bs b.subs.length cT] 50) = W3) := hZ (by rw [hW3, hW2]);have SM := hZ (sameK_any a b (.agg #[.int .i64 a.kind, .string a.pkg, .int .i64 a.major, .string a.mod, .string a.name, .slice An a.names.length cA, .slice As a.subs.length cS]) (.agg #[.int .i64 b.kind, .string b.pkg, .int .i64 b.major, .string b.mod, .string b.name, .slice Bn b.names.length cB, .slice Bs b.subs.length cT]) W3 ⟨_, rfl, HA.out.keep HB3.out⟩ ⟨_, rfl, HBt.out.keep HB3.out⟩);have SU := hZ (subC_any9 a b [.int .i64 a.kind, .string a.pkg, .int .i64 a.major, .string a.mod, .string a.name, .slice An a.names.length cA, .slice As a.subs.length cS] [.int .i64 b.kind, .string b.pkg, .int .i64 b.major, .string b.mod, .string b.name, .slice Bn b.names.length cB, .slice Bs b.subs.length cT] W3 (fun h => Nat.le_trans (mayT_many11 h) (by decide)) (fun h => Nat.le_trans (mayT_many11 h) (by decide)) (HA.out.keep HB3.out) (HBt.out.keep HB3.out));clear ha hb hW2 hW3 B2 B3 O0 O1 O2 s2 hl2 X0 X1;unfold fitsC
  by_cases hk : k = 2
  · subst hk
    rw [if_pos rfl];go_enter Tryz.func65, Tryz.ntmps65
    go_upto_region 1 with fail
    rw [HW.out];clear HW;go_wp2_with (first | fail)
    refine SM.out.mono ?_; rintro e w4 ⟨rfl, hb4⟩
    have FIN := hZ (below_over HB3.out hb4);clear hb4 SM SU;go_wp2_with fail
    go_ret;exact ⟨rfl, FIN.out⟩
  · rw [if_neg hk]
    have e2 : (k == 2) = false := by simpa using hk
    clear hk;go_enter Tryz.func65, Tryz.ntmps65
    go_upto_region 1 with fail
    rw [HW.out];clear HW;go_wp2_with (first | fail)
    refine SU.out.mono ?_; rintro e w4 ⟨rfl, hb4⟩
    have FIN := hZ (below_over HB3.out hb4);clear hb4 SM SU;go_wp2_with fail
    go_ret;exact ⟨rfl, FIN.out⟩
theorem errV_zero11 : errV 0 = .nilIface := by unfold errV; rw [if_pos rfl]
theorem errV_code11 {c : Int} (h : c ≠ 0) : errV c = .iface 33 (.int .i64 c) := by unfold errV; rw [if_neg h]
theorem modM_mayN {u : Us} {env : List If} (h : mayU u = true) (hd : ∀ i, i < u.imps.length -> dupB (·.asn) u.imps i = false) (he : env.length <= 100) : MayN ⟨⟨#[109]⟩, u.imps, []⟩ ⟨#[112]⟩ 1 env := by
  obtain ⟨h1, -, h3, -⟩ := mayU_parts h;refine ⟨⟨?_, hd, fun i hi => by simp at hi, fun i d hd => by simp at hd, fun i d hd => by simp at hd, fun i j d e hd => by simp at hd⟩, by show mayT (.mk 9 ⟨#[112]⟩ 1 ⟨#[109]⟩ ⟨#[84]⟩ [] []) = true; decide +kernel, he⟩;unfold mayM
  simp only [Bool.and_eq_true, decide_eq_true_eq, List.all_eq_true];exact ⟨by decide +kernel, h1, by simp, h3, by simp⟩
def ClOut (u : Us) (env : List If) (d : Ln) (w : World) (e : Ending) (w' : World) : Prop := ∃ c : Int, LnIs u env d c /\ e = .returned (errV c) /\ Below w.heap.size w w'
theorem checkLine_any (u : Us) (env : List If) (d : Ln) (An As : Option Addr) (cA cS : Nat) (Ai : Option Addr) (ci : Nat) (Ae : Option Addr) (ce : Nat) (w : World) (hu : mayU u = true) (hdup : ∀ i, i < u.imps.length -> dupB (·.asn) u.imps i = false) (hel : env.length <= 100) (hkd : d.kind = 1 \/ d.kind = 2)
    (hI : RowIn imR w Ai u.imps) (hci : u.imps.length <= ci) (hE : RowIn ifR w Ae env) (hT : TyAt w [.int .i64 d.typ.kind, .string d.typ.pkg, .int .i64 d.typ.major, .string d.typ.mod, .string d.typ.name, .slice An d.typ.names.length cA, .slice As d.typ.subs.length cS] d.typ) :
    Calls Tryz.prog 33 #[.agg #[.int .i64 d.kind, .string d.mod, .string d.name, .int .i64 d.typ.kind, .string d.typ.pkg, .int .i64 d.typ.major, .string d.typ.mod, .string d.typ.name, .slice An d.typ.names.length cA, .slice As d.typ.subs.length cS], .slice Ai u.imps.length ci, .slice Ae env.length ce] w (ClOut u env d w) := by
  have hz : u.imps.length <= 9223372036854775807 := Nat.le_trans (mayU_parts hu).1 (by decide);have hez : env.length <= 9223372036854775807 := Nat.le_trans hel (by decide);obtain ⟨W1, hW1⟩ : ∃ W1, W1 = w.alloc (.cells #[.int .i64 d.kind, .string d.mod, .string d.name, .int .i64 d.typ.kind, .string d.typ.pkg, .int .i64 d.typ.major, .string d.typ.mod, .string d.typ.name, .slice An d.typ.names.length cA, .slice As d.typ.subs.length cS] 68) := ⟨_, rfl⟩;have B1 : Below w.heap.size w W1 := by rw [hW1]; exact below_new (Below.refl _ _) _
  have O1 : W1.heap[w.heap.size]? = some (.cells #[.int .i64 d.kind, .string d.mod, .string d.name, .int .i64 d.typ.kind, .string d.typ.pkg, .int .i64 d.typ.major, .string d.typ.mod, .string d.typ.name, .slice An d.typ.names.length cA, .slice As d.typ.subs.length cS] 68 (0, 0)) := by rw [hW1]; exact heap_alloc_new w _
  have hl1 : w.heap.size < W1.heap.size := by rw [hW1]; simp
  have HL1 : Hid (∀ wx, Below W1.heap.size W1 wx -> wx.heap[w.heap.size]? = some (.cells #[.int .i64 d.kind, .string d.mod, .string d.name, .int .i64 d.typ.kind, .string d.typ.pkg, .int .i64 d.typ.major, .string d.typ.mod, .string d.typ.name, .slice An d.typ.names.length cA, .slice As d.typ.subs.length cS] 68 (0, 0))) := hZ (fun wx hb => (hb.block _ hl1).trans O1);have HI : Hid (∀ wx, Below W1.heap.size W1 wx -> RowIn imR wx Ai u.imps) := hZ (fun wx hb => hI.below (below_over B1 hb));have HE : Hid (∀ wx, Below W1.heap.size W1 wx -> RowIn ifR wx Ae env) := hZ (fun wx hb => hE.below (below_over B1 hb));have HT : Hid (∀ wx, Below W1.heap.size W1 wx -> TyAt wx [.int .i64 d.typ.kind, .string d.typ.pkg, .int .i64 d.typ.major, .string d.typ.mod, .string d.typ.name, .slice An d.typ.names.length cA, .slice As d.typ.subs.length cS] d.typ) := hZ (fun wx hb => hT.keep (below_over B1 hb));have HB1 := hZ B1;have HW1 := hZ hW1;have IX := hZ (lkImport_any Ai ci u.imps d.mod W1 W1 (HI.out W1 (Below.refl _ _)) (Below.refl _ _) hz);have CT := hZ (fun (wx : World) (hb : Below W1.heap.size W1 wx) => comesTo11_any u.imps env d.typ [.int .i64 d.typ.kind, .string d.typ.pkg, .int .i64 d.typ.major, .string d.typ.mod, .string d.typ.name, .slice An d.typ.names.length cA, .slice As d.typ.subs.length cS] Ai ci Ae ce wx (HI.out wx hb) hz hci (HE.out wx hb) hez (HT.out wx hb));have IF := hZ (fun (x : Im) (wx : World) (hb : Below W1.heap.size W1 wx) => lkIface_any Ae ce env x W1 wx (HE.out W1 (Below.refl _ _)) hb hez);have NM : Hid (∀ (c : Int) (t : Ty), EpIs ⟨⟨#[109]⟩, u.imps, []⟩ ⟨#[112]⟩ 1 env d.typ c t -> EpIs (modU u) nmC 1 env d.typ c t) := hZ (fun c t h => modU_as hu hdup (modM_mayN hu hdup hel) h);obtain ⟨ni, hni⟩ : ∃ ni, ni = u.imps.length := ⟨_, rfl⟩;obtain ⟨ne, hne⟩ : ∃ ne, ne = env.length := ⟨_, rfl⟩;rw [<- hni] at IX CT ⊢;rw [<- hne] at CT IF ⊢;have c1 := cZ O1 1;simp at c1;have HKD := hZ hkd;clear hu hdup hel hI hci hE hT hW1 B1 O1 hz hez hni hne hkd;go_enter Tryz.func33, Tryz.ntmps33
  go_upto_region 1 with fail
  rw [<- HW1.out];clear HW1;go_wp2_with (first | fail)
  refine IX.out.mono ?_; rintro e w2 ⟨rfl, hb2⟩
  obtain ⟨x, hx⟩ : ∃ x, x = gotM u.imps d.mod := ⟨_, rfl⟩;obtain ⟨q, hq⟩ : ∃ q, (u.imps.findIdx? (isAs d.mod)).isSome = q := ⟨_, rfl⟩;rw [hq, <- hx];obtain ⟨wi, hwi⟩ : ∃ wi, wi = w2.alloc (.cells #[.string x.pkg, .int .i64 x.major, .string x.mod, .string x.asn] 71) := ⟨_, rfl⟩;have Bi : Below w2.heap.size w2 wi := by rw [hwi]; exact below_new (Below.refl _ _) _
  have Oi : wi.heap[w2.heap.size]? = some (.cells #[.string x.pkg, .int .i64 x.major, .string x.mod, .string x.asn] 71 (0, 0)) := by rw [hwi]; exact heap_alloc_new w2 _
  have hli : w2.heap.size < wi.heap.size := by rw [hwi]; simp
  have HBI : Hid (Below W1.heap.size W1 wi) := hZ (below_over hb2 Bi);have HOI : Hid (∀ wx, Below wi.heap.size wi wx -> wx.heap[w2.heap.size]? = some (.cells #[.string x.pkg, .int .i64 x.major, .string x.mod, .string x.asn] 71 (0, 0))) := hZ (fun wx hb => (hb.block _ hli).trans Oi);have HWI := hZ hwi;have HXX := hZ hx;have HQQ := hZ hq;clear hb2 IX c1 hwi Bi Oi hx hq;go_upto_region 2 with fail
  rw [<- HWI.out];clear HWI;cases q with
  | false =>
    have SEAL : Hid (ClOut u env d w (.returned (errV 4)) wi) := hZ (by
      have e0 : u.imps.findIdx? (isAs d.mod) = none := by
        cases e : u.imps.findIdx? (isAs d.mod) with
        | none => rfl
        | some k => have h := HQQ.out; rw [e] at h; cases h
      exact ⟨4, .inl ⟨e0, rfl⟩, rfl, below_over HB1.out HBI.out⟩)
    rw [errV_code11 (by decide)] at SEAL;go_wp2_with fail
    go_ret;exact SEAL.out
  | true =>
  obtain ⟨k, hk⟩ : ∃ k, u.imps.findIdx? (isAs d.mod) = some k := Option.isSome_iff_exists.1 HQQ.out
  have hxk : u.imps[k]? = some x := by
    obtain ⟨y, hy⟩ : ∃ y, u.imps[k]? = some y := ⟨_, List.getElem?_eq_getElem (idx_lt hk)⟩;rw [HXX.out, gotM_at hk hy]; exact hy
  have HK := hZ hk;have HXK := hZ hxk;clear hk hxk;have CT4 := hZ (CT.out wi HBI.out);have X1 := HL1.out wi HBI.out;obtain ⟨y0, y1, y2, y3, y4, y5, y6, y7, y8⟩ := cq9 X1;have y9 := cZ X1 9;simp at y0 y1 y2 y3 y4 y5 y6 y7 y8 y9;clear X1 CT y0 y1 y2;go_wp2_with (first | fail)
  refine CT4.out.mono ?_; rintro e w3 ⟨c, p, l, hep, rfl, hp, hb3⟩
  obtain ⟨Bn, cB, Bs, cT, rfl, -⟩ := hp.parts;obtain ⟨w4, hw4⟩ : ∃ w4, w4 = w3.alloc (.cells #[.int .i64 p.kind, .string p.pkg, .int .i64 p.major, .string p.mod, .string p.name, .slice Bn p.names.length cB, .slice Bs p.subs.length cT] 50) := ⟨_, rfl⟩;have B4 : Below w3.heap.size w3 w4 := by rw [hw4]; exact below_new (Below.refl _ _) _
  have O4 : w4.heap[w3.heap.size]? = some (.cells #[.int .i64 p.kind, .string p.pkg, .int .i64 p.major, .string p.mod, .string p.name, .slice Bn p.names.length cB, .slice Bs p.subs.length cT] 50 (0, 0)) := by rw [hw4]; exact heap_alloc_new w3 _
  have hl4 : w3.heap.size < w4.heap.size := by rw [hw4]; simp
  have HI4 : Hid (Below wi.heap.size wi w4) := hZ (below_over hb3 B4);have HB4 : Hid (Below W1.heap.size W1 w4) := hZ (below_over HBI.out HI4.out);have HO4 : Hid (∀ wx, Below w4.heap.size w4 wx -> wx.heap[w3.heap.size]? = some (.cells #[.int .i64 p.kind, .string p.pkg, .int .i64 p.major, .string p.mod, .string p.name, .slice Bn p.names.length cB, .slice Bs p.subs.length cT] 50 (0, 0))) := hZ (fun wx hb => (hb.block _ hl4).trans O4);have HP : Hid (∀ wx, Below w4.heap.size w4 wx -> TyAt wx [.int .i64 p.kind, .string p.pkg, .int .i64 p.major, .string p.mod, .string p.name, .slice Bn p.names.length cB, .slice Bs p.subs.length cT] p) := hZ (fun wx hb => (hp.free.keep B4).keep hb);have HEP := hZ (NM.out c p hep);have HZ : Hid (c = 0 -> mayT p = true /\ plainT p = true) := hZ (fun e => by subst e; exact ⟨(ep_zero hep).2.2.1, (ep_zero hep).2.2.2⟩);have HW4 := hZ hw4;have IE := hZ (isErr_any c 4 (by decide) w4);clear hep hp hb3 hw4 B4 O4 CT4 y3 y4 y5 y6 y7 y8 y9 NM
  have TELL : Hid (∀ (r : Int) (wx : World), r = codeL u.imps env d c p -> Below w4.heap.size w4 wx -> ClOut u env d w (.returned (errV r)) wx) := hZ (fun r wx h hb =>
    ⟨r, .inr ⟨c, p, HEP.out, by rw [h]; exact codeL_eq HKD.out HZ.out⟩, rfl, below_over HB1.out (below_over HB4.out hb)⟩)
  have CL : Hid (codeL u.imps env d c p = if c = 4 then 4 else match ofI (rowU (gotI env x) d.kind) d.name with
      | none => 9
      | some _ => if c ≠ 0 then c else if fitsC d.kind (gotT (rowU (gotI env x) d.kind) d.name) p = true then 0 else 12) := hZ (by
    unfold codeL
    rw [HK.out];dsimp only
    by_cases h4 : c = 4
    · rw [if_pos h4, if_pos h4]
    · rw [if_neg h4, if_neg h4, HXK.out]
      all_goals rfl)
  clear HK HXK HEP HZ HKD;go_upto_region 5 with fail
  rw [<- HW4.out];clear HW4;go_wp2_with (first | fail)
  refine IE.out.mono ?_; rintro e w5 ⟨rfl, rfl⟩
  by_cases h4 : c = 4
  · have RV := hZ (TELL.out c _ (by rw [CL.out, if_pos h4]; exact h4) (Below.refl _ _))
    have b4 : (c == 4) = true := by simpa using h4
    clear CL h4;go_wp2_with fail
    go_ret;exact RV.out
  have b4 : (c == 4) = false := by simpa using h4
  have X2 := HOI.out w5 HI4.out;obtain ⟨x0, x1, x2, x3⟩ := cq4 X2;simp at x0 x1 x2 x3;have FI := hZ (IF.out x w5 HB4.out);have H4 := hZ h4;clear X2 h4 IF IE;go_wp2_with (first | fail)
  refine FI.out.mono ?_; rintro e w6 ⟨l, rfl, hL, hb6⟩
  obtain ⟨f, hf⟩ : ∃ f, f = gotI env x := ⟨_, rfl⟩;rw [<- hf] at hL;obtain ⟨At, ct, Av, cv, rfl, -⟩ := hL W1 (Below.refl _ _);obtain ⟨qf, hqf⟩ : ∃ qf, (findI env x.pkg x.major x.mod).isSome = qf := ⟨_, rfl⟩;rw [hqf];obtain ⟨w7, hw7⟩ : ∃ w7, w7 = w6.alloc (.cells #[.string f.pkg, .int .i64 f.major, .string f.mod, .slice At f.types.length ct, .slice Av f.vals.length cv] 44) := ⟨_, rfl⟩;have B7 : Below w6.heap.size w6 w7 := by rw [hw7]; exact below_new (Below.refl _ _) _
  have O7 : w7.heap[w6.heap.size]? = some (.cells #[.string f.pkg, .int .i64 f.major, .string f.mod, .slice At f.types.length ct, .slice Av f.vals.length cv] 44 (0, 0)) := by rw [hw7]; exact heap_alloc_new w6 _
  have HB57 : Hid (Below w5.heap.size w5 w7) := hZ (below_over hb6 B7);have HB7 : Hid (Below W1.heap.size W1 w7) := hZ (below_over HB4.out HB57.out);have ND := hZ (named11_any f At ct Av cv d.kind d.mod d.name d.typ An As cA cS W1 w7 (hL W1 (Below.refl _ _)) HB7.out);have HF := hZ hf;have HW7 := hZ hw7;have X1 := HL1.out w7 HB7.out;obtain ⟨y0, y1, y2, y3, y4, y5, y6, y7, y8⟩ := cq9 X1;have y9 := cZ X1 9;obtain ⟨z0, z1, z2, z3, z4⟩ := cq5 O7;simp at y0 y1 y2 y3 y4 y5 y6 y7 y8 y9 z0 z1 z2 z3 z4;clear X1 O7 hL hqf hb6 hw7 B7 hf FI x0 x1 x2 x3;go_upto_region 8 with fail
  rw [<- HW7.out];clear HW7;go_wp2_with (first | fail)
  refine ND.out.mono ?_; rintro e w8 ⟨l, rfl, hL, hb8⟩
  obtain ⟨y, hy⟩ : ∃ y, y = gotT (rowU f d.kind) d.name := ⟨_, rfl⟩;rw [<- hy] at hL;obtain ⟨Dn, cD, Ds, cE, rfl, -⟩ := (hL W1 (Below.refl _ _)).parts;obtain ⟨qn, hqn⟩ : ∃ qn, (ofI (rowU f d.kind) d.name).isSome = qn := ⟨_, rfl⟩;rw [hqn];obtain ⟨w9, hw9⟩ : ∃ w9, w9 = w8.alloc (.cells #[.int .i64 y.kind, .string y.pkg, .int .i64 y.major, .string y.mod, .string y.name, .slice Dn y.names.length cD, .slice Ds y.subs.length cE] 50) := ⟨_, rfl⟩;have B9 : Below w8.heap.size w8 w9 := by rw [hw9]; exact below_new (Below.refl _ _) _
  have O9 : w9.heap[w8.heap.size]? = some (.cells #[.int .i64 y.kind, .string y.pkg, .int .i64 y.major, .string y.mod, .string y.name, .slice Dn y.names.length cD, .slice Ds y.subs.length cE] 50 (0, 0)) := by rw [hw9]; exact heap_alloc_new w8 _
  have HB59 : Hid (Below w5.heap.size w5 w9) := hZ (below_over HB57.out (below_over hb8 B9));have HB9 : Hid (Below W1.heap.size W1 w9) := hZ (below_over HB4.out HB59.out);have HYT := hZ (hL w9 HB9.out);have HW9 := hZ hw9;have HO9 := hZ O9;rw [<- HF.out] at CL;have HQN := hZ hqn;have HYY := hZ hy;clear hL hb8 hw9 B9 ND hqn hy y0 y1 y2 y3 y4 y5 y6 y7 y8 y9 z0 z1 z2 z3 z4 O9;go_upto_region 9 with fail
  rw [<- HW9.out];clear HW9;cases qn with
  | false =>
    have hno : ofI (rowU f d.kind) d.name = none := by
      cases e : ofI (rowU f d.kind) d.name with
      | none => rfl
      | some k => have h := HQN.out; rw [e] at h; cases h
    have RV := hZ (TELL.out 9 w9 (by rw [CL.out, if_neg H4.out, hno]) HB59.out);rw [errV_code11 (by decide)] at RV;clear CL hno;go_wp2_with fail
    go_ret;exact RV.out
  | true =>
  obtain ⟨n, hn⟩ : ∃ n, ofI (rowU f d.kind) d.name = some n := Option.isSome_iff_exists.1 HQN.out;have CL2 : Hid (codeL u.imps env d c p = if c ≠ 0 then c else if fitsC d.kind y p = true then 0 else 12) := hZ (by rw [CL.out, if_neg H4.out, hn, HYY.out]);clear CL hn;by_cases h0 : c = 0
  rotate_left
  · have RV := hZ (TELL.out c w9 (by rw [CL2.out, if_pos h0]) HB59.out)
    rw [errV_code11 h0] at RV ⊢;clear CL2 h0;go_wp2_with fail
    go_ret;exact RV.out
  subst h0;rw [errV_zero11];have FT := hZ (fits11_any d.kind d.mod d.name d.typ y p An As cA cS [.int .i64 y.kind, .string y.pkg, .int .i64 y.major, .string y.mod, .string y.name, .slice Dn y.names.length cD, .slice Ds y.subs.length cE] [.int .i64 p.kind, .string p.pkg, .int .i64 p.major, .string p.mod, .string p.name, .slice Bn p.names.length cB, .slice Bs p.subs.length cT] w9 HYT.out (HP.out w9 HB59.out));obtain ⟨v, hv⟩ : ∃ v, fitsC d.kind y p = v := ⟨_, rfl⟩;rw [hv] at FT;have CL3 : Hid (codeL u.imps env d 0 p = if v = true then 0 else 12) := hZ (by rw [CL2.out, if_neg (by decide), hv]);have X1 := HL1.out w9 HB9.out;have X3 := HO4.out w9 HB59.out;have X4 := HO9.out;obtain ⟨y0, y1, y2, y3, y4, y5, y6, y7, y8⟩ := cq9 X1;have y9 := cZ X1 9;obtain ⟨z0, z1, z2, z3, z4, z5, z6⟩ := cq7 X3;obtain ⟨x0, x1, x2, x3, x4, x5, x6⟩ := cq7 X4;simp at y0 y1 y2 y3 y4 y5 y6 y7 y8 y9 z0 z1 z2 z3 z4 z5 z6 x0 x1 x2 x3 x4 x5 x6;clear X1 X3 X4 CL2 hv;go_wp2_with (first | fail)
  refine FT.out.mono ?_; rintro e w10 ⟨rfl, hb10⟩
  have HBX : Hid (Below w5.heap.size w5 w10) := hZ (below_over HB59.out hb10);clear hb10 FT y0 y1 y2 y3 y4 y5 y6 y7 y8 y9 z0 z1 z2 z3 z4 z5 z6 x0 x1 x2 x3 x4 x5 x6;cases v with
  | true =>
    have RV := hZ (TELL.out 0 w10 (by rw [CL3.out]; rfl) HBX.out);rw [errV_zero11] at RV;go_wp2_with fail
    go_ret;exact RV.out
  | false =>
    have RV := hZ (TELL.out 12 w10 (by rw [CL3.out]; rfl) HBX.out);rw [errV_code11 (by decide)] at RV;go_wp2_with fail
    go_ret;exact RV.out
end Go.Proofs.YtddlmigofilejaaGreat
