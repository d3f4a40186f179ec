/-
  Several texts in one.
-/
import Derived.Test.YtddlmigofilejaaGreatK15
set_option maxRecDepth 100000
set_option maxHeartbeats 8000000
namespace Go.Proofs.YtddlmigofilejaaGreat
open Go Go.RowKit Go.Shelf
open Go.Sort Go.Maps
open M
theorem not_both {l : List UInt8} (h1 : smallB l = true) (h2 : greatB l = true) : False := by
 unfold smallB at h1
 unfold greatB at h2
 rw [Bool.and_eq_true, spell_iff] at h1 h2
 have a := h1.1.2.2.1
 have b := h2.1.2.2.1
 unfold lowC at a
 unfold upC at b
 simp only [Bool.and_eq_true, decide_eq_true_eq] at a b
 omega
theorem findIdx_congr {α : Type} {p q : α -> Bool} : ∀ (l : List α), (∀ x ∈ l, p x = q x) -> l.findIdx? p = l.findIdx? q
 | [], _ => rfl
 | a :: r, h => by
  rw [List.findIdx?_cons, List.findIdx?_cons, h a List.mem_cons_self, findIdx_congr r fun x hx => h x (List.mem_cons_of_mem _ hx)]
theorem de_typ {m : Mo} {s : ByteArray} (hm : mayM m = true) (hs : greatB s.data.toList = true) : m.decs.findIdx? (isDe s) = typAt m s := by
 unfold typAt
 refine findIdx_congr _ fun d hd => ?_
 unfold isDe isTyp
 cases h4 : (d.kind == 4) with
 | false => simp
 | true =>
  have h4 := beq_iff_eq.1 h4;rcases mayD_sorts ((mayM_parts hm).2.2.2 d hd) with ⟨e, -, -⟩ | ⟨e, -, -⟩ | ⟨-, -, e⟩
  ·omega
  ·omega
  ·simp only [Bool.not_true, Bool.false_and, decide_eq_false_iff_not]
   intro he;rw [he] at e;exact not_both e hs
theorem zTy_not : mayT zTy = false := by decide
theorem imp_has (m : Mo) (s : ByteArray) : impHas m s = (impAt m s).isSome := by
 unfold impHas impAt
 have key : ∀ l : List Im, (l.any fun x => decide (x.asn = s)) = (l.findIdx? fun x => decide (x.asn = s)).isSome := by
  intro l;induction l with
  | nil => rfl
  | cons a r ih =>
   rw [List.any_cons, List.findIdx?_cons, ih];cases decide (a.asn = s) <;> simp
 exact key _
theorem got_env {env : List If} {x : Im} {s : ByteArray} : gotT (gotI env x).types s = (envT env x s).getD zTy := by
 unfold envT
 cases hk : findI env x.pkg x.major x.mod with
 | none =>
  rw [gotI_no hk]; rfl
 | some k =>
  obtain ⟨y, hy⟩ : ∃ y, env[k]? = some y := ⟨_, List.getElem?_eq_getElem (findI_lt hk)⟩;rw [gotI_at hk hy];simp only [hy];cases hn : ofI y.types s with
  | none => rw [gotT_no hn]; rfl
  | some n =>
   obtain ⟨z, hz⟩ : ∃ z, y.types[n]? = some z := ⟨_, List.getElem?_eq_getElem (ofI_lt hn)⟩;rw [gotT_at hn hz];simp only [hz];rfl
theorem look_is {m : Mo} {pkg : ByteArray} {major : Int} {env : List If} {t : Ty} (hm : mayM m = true) (ho : ownOk t = true) (h8 : t.kind = 8) :
  (knoN m t = false /\ (lookM m pkg major env t.mod t.name).2 = 4) \/
  (knoN m t = true /\ t.mod.size ≠ 0 /\ thereT m env t = none /\ (lookM m pkg major env t.mod t.name).2 = 9) \/
  (knoN m t = true /\ (t.mod.size ≠ 0 -> (thereT m env t).isSome = true) /\ ∃ s, meanT m pkg major env t = some s /\ lookM m pkg major env t.mod t.name = (s, 0)) := by
 unfold knoN lookM meanT
 by_cases hz : t.mod.size = 0
 ·simp only [if_pos hz]
  unfold ownM
  rw [de_typ hm (local_great ho h8)];cases hk : typAt m t.name with
  | none => exact .inl ⟨rfl, rfl⟩
  | some k =>
   obtain ⟨d, hd⟩ := dec_at (typAt_lt hk);refine .inr (.inr ⟨rfl, fun h => absurd hz h, ?_⟩);simp only [hd, Option.map_some];by_cases h3 : d.kind = 3
   ·simp only [if_pos h3]; exact ⟨_, rfl, rfl⟩
   ·simp only [if_neg h3]; exact ⟨_, rfl, rfl⟩
 ·simp only [if_neg hz]
  rw [imp_has];unfold othM thereT
  cases hk : impAt m t.mod with
  | none => exact .inl ⟨rfl, rfl⟩
  | some k =>
   have hkl : k < m.imps.length := by
    unfold impAt at hk
    rw [List.findIdx?_eq_some_iff_getElem] at hk;exact hk.1
   obtain ⟨x, hx⟩ : ∃ x, m.imps[k]? = some x := ⟨_, List.getElem?_eq_getElem hkl⟩;simp only [hx];rw [got_env];cases he : envT env x t.name with
   | none =>
    refine .inr (.inl ⟨rfl, hz, rfl, ?_⟩);simp only [Option.getD_none];rw [zTy_not]; rfl
   | some s =>
    simp only [Option.getD_some];by_cases hp : (mayT s && plainT s) = true
    ·simp only [if_pos hp]
     exact .inr (.inr ⟨rfl, fun _ => rfl, s, rfl, rfl⟩)
    ·simp only [if_neg hp]
     exact .inr (.inl ⟨rfl, hz, by first | rfl | simp, by first | rfl | simp⟩)
theorem mean_ok {m : Mo} {pkg : ByteArray} {major : Int} {env : List If} (hm : mayM m = true) (hp : smallB pkg.data.toList = true) (h1 : 1 <= major) (h2 : major <= 999999999) {t s : Ty} (ht : allOk t = true) (h8 : t.kind = 8) (hs : meanT m pkg major env t = some s) : allOk s = true := by
 have ho : ownOk t = true := by rw [allOk_eq, Bool.and_eq_true] at ht; exact ht.1
 unfold meanT at hs
 split at hs
 ·split at hs
  ·cases hs
  ·rename_i k hk
   obtain ⟨d, hd⟩ := dec_at (typAt_lt hk);rw [hd] at hs;simp only [Option.map_some, Option.some.injEq] at hs;split at hs
   ·rename_i h3
    rcases mayD_sorts ((mayM_parts hm).2.2.2 d (List.mem_of_getElem? hd)) with ⟨e, -⟩ | ⟨-, e, -⟩ | ⟨e, -⟩
    ·rcases e with e | e <;> rw [h3] at e <;> cases e
    ·rw [<- hs]; unfold mayT at e; simp only [Bool.and_eq_true] at e; exact e.1.1
    ·rw [h3] at e; cases e
   ·rw [<- hs]; exact open_ok hm hp h1 h2 (local_great ho h8)
 ·have := (thereT_plain hs).1
  unfold mayT at this
  simp only [Bool.and_eq_true] at this;exact this.1.1
theorem ok_few {t : Ty} (h : allOk t = true) : t.subs.length <= 20 := by
 rw [allOk_eq, Bool.and_eq_true] at h
 have := h.1
 unfold ownOk at this
 simp only [Bool.and_eq_true, decide_eq_true_eq] at this
 exact this.1.1
theorem xp_any (w0 : World) (kb eb : Nat) (m : Mo) (pkg : ByteArray) (major : Int) (env : List If) (Ai : Option Addr) (ci : Nat) (Ad : Option Addr) (cd : Nat) (Ae : Option Addr) (ce : Nat) (hns : NsAt w0 [.string m.name, .slice Ai m.imps.length ci, .slice Ad m.decs.length cd, .string pkg, .int .i64 major, .slice Ae env.length ce, .map (some kb)] m pkg major env kb) (hk0 : w0.heap.size <= kb) (he0 : w0.heap.size <= eb) (hke : kb ≠ eb)
  (hm : mayM m = true) (hp : smallB pkg.data.toList = true) (h1 : 1 <= major) (h2 : major <= 999999999) : ∀ (h : Nat) (t u : Ty), allOk t = true -> ExpH (meanT m pkg major env) h t u -> XpCall w0 kb eb m pkg major env Ai ci Ad cd Ae ce t u := by
 intro h
 induction h with
 | zero => intro t u _ hx; exact hx.elim
 | succ h ih =>
  intro t u ht hx;have ho : ownOk t = true := by rw [allOk_eq, Bool.and_eq_true] at ht; exact ht.1
  rcases hx with ⟨h8, s, hs, hx⟩ | ⟨h8, us, rfl, hl, hx⟩
  ·rcases look_is (pkg := pkg) (major := major) (env := env) hm ho h8 with ⟨hk, hc⟩ | ⟨hk, hz, hn, hc⟩ | ⟨hk, hz, s', hs', hlk⟩
   ·unfold meanT at hs
    unfold knoN at hk
    split at hk
    ·rename_i hz
     rw [if_pos hz] at hs;cases e : typAt m t.name with
     | none => rw [e] at hs; cases hs
     | some k => rw [e] at hk; cases hk
    ·rename_i hz
     rw [if_neg hz] at hs;unfold thereT at hs
     rw [imp_has] at hk;cases e : impAt m t.mod with
     | none => rw [e] at hs; cases hs
     | some k => rw [e] at hk; cases hk
   ·unfold meanT at hs
    rw [if_neg hz, hn] at hs;cases hs
   ·rw [hs] at hs'
    cases hs'
    exact xp_local w0 kb eb m pkg major env Ai ci Ad cd Ae ce hns hk0 he0 hke t s u h8 (by rw [hlk]) (ih s u (mean_ok hm hp h1 h2 ht h8 hs) hx)
  ·have ha := ht
   rw [allOk_eq, Bool.and_eq_true] at ha;exact xp_node w0 kb eb m pkg major env Ai ci Ad cd Ae ce hns hk0 he0 hke t us h8 hl (by have := ok_few ht; omega) fun i s v hs hv => ih s v ((allOkL_mem _).1 ha.2 s (List.mem_of_getElem? hs)) (hx i s v hs hv)
theorem fail_loc (mean : ByteArray -> ByteArray -> Ty × Int) (c : Int) : ∀ (N : Nat) (t : Ty), many t <= N -> allOk t = true -> failT mean c t = (locT t).any fun x => (mean x.mod x.name).2 == c := by
 intro N
 induction N with
 | zero => intro t h; have := many_pos t; omega
 | succ N ih =>
  intro t hN ha;have ha' := ha
  rw [allOk_eq, Bool.and_eq_true] at ha;rw [failT_eq, locT_eq];by_cases h8 : t.kind = 8
  ·rw [if_pos h8, if_pos h8, local_subs ha.1 h8]; simp [locL]
  ·rw [if_neg h8, if_neg h8, failL_any, List.nil_append]
   have key : ∀ l : List Ty, (∀ s ∈ l, failT mean c s = (locT s).any fun x => (mean x.mod x.name).2 == c) -> l.any (failT mean c) = (locL l).any fun x => (mean x.mod x.name).2 == c := by
    intro l;induction l with
    | nil => intro _; rfl
    | cons a r ihr =>
     intro h;rw [List.any_cons, locL, List.any_append, h a List.mem_cons_self, ihr fun s hs => h s (List.mem_cons_of_mem _ hs)]
   refine key _ fun s hs => ih s ?_ ((allOkL_mem _).1 ha.2 s hs)
   have h1 := manyL_mem _ _ hs;have h2 := manyL_eq t;omega
theorem loc_own : ∀ (N : Nat) (t : Ty), many t <= N -> allOk t = true -> ∀ x ∈ locT t, x.kind = 8 /\ ownOk x = true := by
 intro N
 induction N with
 | zero => intro t h; have := many_pos t; omega
 | succ N ih =>
  intro t hN ha x hx;have ha' := ha
  rw [allOk_eq, Bool.and_eq_true] at ha;rw [locT_eq] at hx;rcases List.mem_append.1 hx with hx | hx
  ·split at hx
   ·rename_i h8
    simp at hx; subst hx
    exact ⟨h8, ha.1⟩
   ·cases hx
  ·have key : ∀ l : List Ty, x ∈ locL l -> ∃ s ∈ l, x ∈ locT s := by
    intro l;induction l with
    | nil => intro h; cases h
    | cons a r ihr =>
     intro h;unfold locL at h
     rcases List.mem_append.1 h with h | h
     ·exact ⟨a, List.mem_cons_self, h⟩
     ·obtain ⟨s, hs, h⟩ := ihr h
      exact ⟨s, List.mem_cons_of_mem _ hs, h⟩
   obtain ⟨s, hs, hx⟩ := key _ hx;refine ih s ?_ ((allOkL_mem _).1 ha.2 s hs) x hx;have h1 := manyL_mem _ _ hs;have h2 := manyL_eq t;omega
theorem fail_name {m : Mo} {pkg : ByteArray} {major : Int} {env : List If} (hm : mayM m = true) {t : Ty} (ht : allOk t = true) : failT (lookM m pkg major env) 4 t = !(locT t).all (knoN m) := by
 rw [fail_loc _ _ _ t (Nat.le_refl _) ht, Bool.eq_iff_iff, Bool.not_eq_true', List.any_eq_true, Bool.eq_false_iff, ne_eq, List.all_eq_true]
 constructor
 ·rintro ⟨x, hx, hc⟩ hall
  obtain ⟨h8, ho⟩ := loc_own _ t (Nat.le_refl _) ht x hx;have := hall x hx
  have hc := beq_iff_eq.1 hc;rcases look_is (pkg := pkg) (major := major) (env := env) hm ho h8 with ⟨hk, -⟩ | ⟨-, -, -, h9⟩ | ⟨-, -, s, -, h0⟩
  ·rw [hk] at this; cases this
  ·omega
  ·rw [h0] at hc; cases hc
 ·intro h
  apply Classical.byContradiction
  intro hno;apply h
  intro x hx;obtain ⟨h8, ho⟩ := loc_own _ t (Nat.le_refl _) ht x hx;rcases look_is (pkg := pkg) (major := major) (env := env) hm ho h8 with ⟨-, h4⟩ | ⟨hk, -⟩ | ⟨hk, -⟩
  ·exact absurd ⟨x, hx, beq_iff_eq.2 h4⟩ hno
  ·exact hk
  ·exact hk
theorem fail_none {m : Mo} {pkg : ByteArray} {major : Int} {env : List If} (hm : mayM m = true) {t : Ty} (ht : allOk t = true) (hk : (locT t).all (knoN m) = true) : failT (lookM m pkg major env) 9 t = lacksN m env (locT t) := by
 rw [fail_loc _ _ _ t (Nat.le_refl _) ht]
 unfold lacksN
 rw [Bool.eq_iff_iff, List.any_eq_true, List.any_eq_true]
 rw [List.all_eq_true] at hk
 constructor
 ·rintro ⟨x, hx, hc⟩
  obtain ⟨h8, ho⟩ := loc_own _ t (Nat.le_refl _) ht x hx;have hc := beq_iff_eq.1 hc;refine ⟨x, hx, ?_⟩;rcases look_is (pkg := pkg) (major := major) (env := env) hm ho h8 with ⟨h, -⟩ | ⟨-, hz, hn, -⟩ | ⟨-, -, s, -, h0⟩
  ·rw [hk x hx] at h; cases h
  ·rw [hn]; simp [hz]
  ·rw [h0] at hc; cases hc
 ·rintro ⟨x, hx, hc⟩
  obtain ⟨h8, ho⟩ := loc_own _ t (Nat.le_refl _) ht x hx;simp only [Bool.and_eq_true, Bool.not_eq_true', decide_eq_false_iff_not] at hc;refine ⟨x, hx, beq_iff_eq.2 ?_⟩;rcases look_is (pkg := pkg) (major := major) (env := env) hm ho h8 with ⟨h, -⟩ | ⟨-, hz, hn, h9⟩ | ⟨-, hz, s, -, h0⟩
  ·rw [hk x hx] at h; cases h
  ·exact h9
  ·have := hz hc.1
   rw [hc.2] at this; cases this
def OwnT (w0 w : World) (lo : Nat) (v : Value) (xs : List Ty) : Prop :=
 ∃ C : List (List Value), C.length = xs.length /\ (∀ l, l ∈ C -> l.length = 7) /\ w.ownsRow lo 50 7 v xs.length C.flatten /\ ∀ (i : Nat) (l : List Value) (x : Ty), C[i]? = some l -> xs[i]? = some x -> TyAt w0 l x
theorem OwnT.keep {w0 w w' : World} {lo : Nat} {v : Value} {xs : List Ty} (h : OwnT w0 w lo v xs) (hb : ∀ b, lo <= b -> b < w.heap.size -> w'.heap[b]? = w.heap[b]?) : OwnT w0 w' lo v xs := by
 obtain ⟨C, h1, h2, h3, h4⟩ := h
 exact ⟨C, h1, h2, own_from h3 hb, h4⟩
theorem OwnT.mono {w0 w : World} {lo lo' : Nat} {v : Value} {xs : List Ty} (h : OwnT w0 w lo v xs) (hl : lo' <= lo) : OwnT w0 w lo' v xs := by
 obtain ⟨C, h1, h2, h3, h4⟩ := h
 refine ⟨C, h1, h2, ⟨h3.1, ?_⟩, h4⟩
 rcases h3.2 with h | ⟨g, cap, cur, hv, hB, rest⟩
 ·exact .inl h
 ·exact .inr ⟨g, cap, cur, hv, Nat.le_trans hl hB, rest⟩
theorem OwnT.more {w0 w' : World} {lo : Nat} {v' : Value} {xs : List Ty} {x : Ty} {l : List Value} {C : List (List Value)} (h1 : C.length = xs.length) (h2 : ∀ l, l ∈ C -> l.length = 7) (h4 : ∀ (i : Nat) (l : List Value) (x : Ty), C[i]? = some l -> xs[i]? = some x -> TyAt w0 l x) (hT : TyAt w0 l x)
  (hown : w'.ownsRow lo 50 7 v' (xs.length + 1) (C.flatten ++ l)) : OwnT w0 w' lo v' (xs ++ [x]) := by
 refine ⟨C ++ [l], by simp [h1], fun k hk => ?_, by rw [List.length_append, List.flatten_append]; simpa using hown, fun i k y hk hy => ?_⟩
 ·rcases List.mem_append.1 hk with h | h
  ·exact h2 k h
  ·rw [List.mem_singleton.1 h]; exact hT.len
 ·rcases Nat.lt_or_ge i xs.length with hi | hi
  ·rw [List.getElem?_append_left (by omega)] at hk hy
   exact h4 i k y hk hy
  ·rw [List.getElem?_append_right (by omega)] at hk hy
   have hj := (List.getElem?_eq_some_iff.1 hy).1;simp at hj;have e : i - xs.length = 0 := by omega
   rw [h1, e] at hk;rw [e] at hy;simp at hk hy;rw [<- hk, <- hy]; exact hT
noncomputable def allK (m : Mo) (t : Ty) (k : Nat) : List Ty := t :: (List.range k).filterMap fun i => if reachB (entries m) (saidT m t) i = true then (m.decs[i]?).bind fun d => if d.kind = 3 then some d.typ else none else none
theorem allK_zero (m : Mo) (t : Ty) : allK m t 0 = [t] := rfl
theorem allK_yes {m : Mo} {t : Ty} {k : Nat} {d : De} (hd : m.decs[k]? = some d) (h3 : d.kind = 3) (hr : reachB (entries m) (saidT m t) k = true) : allK m t (k + 1) = allK m t k ++ [d.typ] := by
 unfold allK; rw [List.range_succ, List.filterMap_append]; simp [hd, h3, hr]
theorem allK_no {m : Mo} {t : Ty} {k : Nat} {d : De} (hd : m.decs[k]? = some d) (h : d.kind ≠ 3 \/ reachB (entries m) (saidT m t) k = false) : allK m t (k + 1) = allK m t k := by
 unfold allK; rw [List.range_succ, List.filterMap_append]
 rcases h with h | h <;> simp [hd, h]
theorem allK_len (m : Mo) (t : Ty) : ∀ k, (allK m t k).length <= k + 1 := fun k => by
 unfold allK
 have := List.length_filterMap_le (fun i => if reachB (entries m) (saidT m t) i = true then (m.decs[i]?).bind fun d => if d.kind = 3 then some d.typ else none else none) (List.range k)
 rw [List.length_range] at this
 rw [List.length_cons]; omega
theorem ment_mem {m : Mo} {t : Ty} (ok : Ok7 m) {k : Nat} {d : De} (hd : m.decs[k]? = some d) : d.name ∈ mentN m t m.decs.length ↔ reachB (entries m) (saidT m t) k = true := by
 unfold mentN
 rw [List.mem_filterMap]
 constructor
 ·rintro ⟨i, hi, h⟩
  split at h
  ·rename_i hr
   obtain ⟨e, he, hn⟩ := Option.map_eq_some_iff.1 h;obtain rfl := dup_not ok.dec he hd hn;exact hr
  ·cases h
 ·intro hr
  exact ⟨k, List.mem_range.2 (dec_lt hd), by rw [if_pos hr, hd]; rfl⟩
theorem sortS_mem {L : List ByteArray} {x : ByteArray} : (x ∈ (sortS L).map fun y : List UInt8 => (⟨y.toArray⟩ : ByteArray)) ↔ x ∈ L := by
 unfold sortS
 rw [List.mem_map]
 constructor
 ·rintro ⟨y, hy, rfl⟩
  rw [List.mem_mergeSort, List.mem_map] at hy;obtain ⟨z, hz, rfl⟩ := hy;exact hz
 ·intro h
  exact ⟨x.data.toList, by rw [List.mem_mergeSort, List.mem_map]; exact ⟨x, h, rfl⟩, rfl⟩
theorem has_ment (w : World) (A : Option Addr) (c : Nat) (L : List ByteArray) (x : ByteArray) (h : StrsAt w A (sortS L)) (hL : L.length <= 1000000) :
  Calls Tryz.prog 151 #[.slice A L.length c, .string x] w fun e w' => ∃ r : Bool, e = .returned (.bool r) /\ (r = true ↔ x ∈ L) /\ w' = w := by
 have hsl : (sortS L).length = L.length := by unfold sortS; rw [List.length_mergeSort, List.length_map]
 cases L with
 | nil =>
  refine (Tryz.slices_Contains_string_empty A c x w).mono ?_;rintro e w' ⟨rfl, rfl⟩;exact ⟨false, rfl, by simp, rfl⟩
 | cons a r =>
  obtain ⟨y0, h0⟩ : ∃ y0, (sortS (a :: r))[0]? = some y0 := ⟨_, List.getElem?_eq_getElem (by rw [hsl]; simp)⟩;obtain ⟨g, rfl, hg, -⟩ := h 0 y0 h0
  have C := Tryz.slices_Contains_string g 0 (a :: r).length c ((sortS (a :: r)).map fun y : List UInt8 => (⟨y.toArray⟩ : ByteArray)) x w (by rw [List.length_map, hsl]; exact Nat.le_refl _) (by omega) (fun j hj => by
   rw [List.length_map] at hj;obtain ⟨g', e, -, hc⟩ := h j _ (List.getElem?_eq_getElem hj);cases e
   rw [Nat.zero_add, hc];simp [List.getD_eq_getElem?_getD, hj])
  refine C.mono ?_;rintro e w' ⟨rfl, rfl⟩;refine ⟨_, rfl, ?_, rfl⟩;rw [List.take_of_length_le (by rw [List.length_map, hsl]; exact Nat.le_refl _)];rw [Lib.containsS_iff, sortS_mem]
theorem allN_any (m : Mo) (pkg : ByteArray) (major : Int) (env : List If) (kb : Nat) (Ai : Option Addr) (ci : Nat) (Ad : Option Addr) (cd : Nat) (Ae : Option Addr) (ce : Nat) (t : Ty) (l : List Value) (w0 w : World) (hMo : MoAt w0 [.string m.name, .slice Ai m.imps.length ci, .slice Ad m.decs.length cd] m) (hw : Below w0.heap.size w0 w) (hT : TyAt w0 l t)
  (hm : mayM m = true) (ok : Ok7 m) (ht : mayT t = true) (hM : ∀ d ∈ m.decs, many d.typ <= 9000) :
  Calls Tryz.prog 123 #[.agg #[.string m.name, .slice Ai m.imps.length ci, .slice Ad m.decs.length cd, .string pkg, .int .i64 major, .slice Ae env.length ce, .map (some kb)], .agg l.toArray] w fun e w' => ∃ (A : Option Addr) (c : Nat), e = .returned (.slice A (allK m t m.decs.length).length c) /\ OwnT w0 w' w.heap.size (.slice A (allK m t m.decs.length).length c) (allK m t m.decs.length) /\ Below w.heap.size w w' := by
 have HT := hZ hT
 have HW := hZ hw
 obtain ⟨Bn, cB, Bs, dB, rfl, -⟩ := hT.parts
 obtain ⟨nd, hnd⟩ : ∃ nd, nd = m.decs.length := ⟨_, rfl⟩
 have HND := hZ hnd
 have h60 := (mayM_parts hm).2.1
 obtain ⟨W2, hW2, B2, O0, O1, hl2⟩ := two_boxes w #[.string m.name, .slice Ai m.imps.length ci, .slice Ad nd cd, .string pkg, .int .i64 major, .slice Ae env.length ce, .map (some kb)] #[.int .i64 t.kind, .string t.pkg, .int .i64 t.major, .string t.mod, .string t.name, .slice Bn t.names.length cB, .slice Bs t.subs.length dB] 157 50
 have HNM := hMo.names
 have CM := hZ (ment_yes m _ t (.agg #[.int .i64 t.kind, .string t.pkg, .int .i64 t.major, .string t.mod, .string t.name, .slice Bn t.names.length cB, .slice Bs t.subs.length dB]) W2 (hMo.below (below_over hw B2)) ⟨_, rfl, hT.keep (below_over hw B2)⟩ hm ht HNM.1 (fun d hd => ⟨hM d hd, HNM.2 d hd⟩) (fun d hd => by have := mayD_name ((mayM_parts hm).2.2.2 d hd); omega))
 have hDe : RowIn deR w0 Ad m.decs := by
  obtain ⟨A1, c1, A2, c2, e, -, -, -, -, h⟩ := hMo;simp at e;rw [e.2.1]; exact h
 have HD := hZ hDe
 have HOK := hZ ok
 obtain ⟨L, hL⟩ : ∃ L, L = mentN m t m.decs.length := ⟨_, rfl⟩
 have hLl : L.length <= 60 := by have := mentN_len m t m.decs.length; rw [hL]; omega
 have HL := hZ hL
 rw [<- hL] at CM
 have HB2 := hZ B2
 have HW2 := hZ hW2
 have HO1 := hZ O1
 have HO0 := hZ O0
 obtain ⟨x0, x1, x2⟩ := cq3 O0
 simp at x0 x1 x2
 obtain ⟨y0, y1, y2, y3, y4, y5, y6⟩ := cq7 O1
 simp at y0 y1 y2 y3 y4 y5 y6
 rw [<- hnd] at CM h60 ⊢
 clear hT hw hMo hnd hW2 B2 O0 O1 hDe HNM hL hm ht hM ok
 go_enter Tryz.func123, Tryz.ntmps123
 go_upto_region 1 with fail
 rw [<- HW2.out]
 clear HW2
 go_wp2_with fail
 refine CM.out.mono ?_; rintro e w3 ⟨Am, cm, rfl, hSt, hb3⟩
 have hs3 := hb3.size
 have HB3 : Hid (Below w.heap.size w w3) := hZ (below_over HB2.out hb3)
 have X1 := (hb3.block _ hl2).trans HO1.out
 have X0 := (hb3.block _ (by omega)).trans HO0.out
 have HX0 := hZ X0
 clear x0 x1 x2 y0 y1 y2 y3 y4 y5 y6 CM
 obtain ⟨y0, y1, y2, y3, y4, y5, y6⟩ := cq7 X1
 simp at y0 y1 y2 y3 y4 y5 y6
 obtain ⟨W4, hW4⟩ : ∃ W4, W4 = w3.alloc (.cells #[.int .i64 t.kind, .string t.pkg, .int .i64 t.major, .string t.mod, .string t.name, .slice Bn t.names.length cB, .slice Bs t.subs.length dB] 50) := ⟨_, rfl⟩
 have B4 : Below w3.heap.size w3 W4 := by rw [hW4]; exact below_new (Below.refl _ _) _
 have HST : Hid (∀ wx, Below w3.heap.size w3 wx -> StrsAt wx Am (sortS L)) := hZ (fun wx b i x hx => by
  obtain ⟨g, e, hg, hc⟩ := hSt i x hx;exact ⟨g, e, Nat.lt_of_lt_of_le hg b.size, (b.cell (p := ⟨g, _, none⟩) hg).trans hc⟩)
 have START : Hid (OwnT w0 W4 w3.heap.size (.slice (some ⟨w3.heap.size, 0, none⟩) 1 1) (allK m t 0)) := hZ (by
  have h := World.ownsRow_lit (base := w3.heap.size) (e := 50) (size := 7) w3 #[.int .i64 t.kind, .string t.pkg, .int .i64 t.major, .string t.mod, .string t.name, .slice Bn t.names.length cB, .slice Bs t.subs.length dB] 1 (Nat.le_refl _) (by decide) rfl;rw [<- hW4] at h;rw [allK_zero]
  exact ⟨[[.int .i64 t.kind, .string t.pkg, .int .i64 t.major, .string t.mod, .string t.name, .slice Bn t.names.length cB, .slice Bs t.subs.length dB]], rfl, fun l hl => by rw [List.mem_singleton.1 hl]; rfl, h, fun i l x hl hx => by
   have hi0 : i = 0 := by have := (List.getElem?_eq_some_iff.1 hl).1; simp at this; exact this
   subst hi0;simp at hl hx;rw [<- hl, <- hx]; exact HT.out⟩)
 have HB34 := hZ B4
 have z2 : W4.cell? ⟨w.heap.size, 2, none⟩ = some (.slice Ad nd cd) := by
  have := cZ ((B4.block w.heap.size (by omega)).trans HX0.out) 2
  simpa using this
 have HW4 := hZ hW4
 have HS4 : Hid (w.heap.size + 1 < W4.heap.size) := hZ (by rw [hW4]; simp; omega)
 obtain ⟨i0, hi, hz0, hz1, hz2⟩ := info_parts typ_info
 clear hSt hb3 hW4 B4 X0 X1
 go_upto_region 3 with fail
 rw [<- HW4.out]
 clear y0 y1 y2 y3 y4 y5 y6 HW4
 go_wp2_with fail
 clear z2
 go_loopw [6, 19] (fun s6 s19 wr => ∃ (k : Nat) (A : Option Addr) (c : Nat), k <= nd /\ s19 = .int .i64 k /\ s6 = .slice A (allK m t k).length c /\ Hid (OwnT w0 wr w3.heap.size (.slice A (allK m t k).length c) (allK m t k)) /\ Hid (Below w3.heap.size w3 wr)) (fun _ s19 _ => nd - (intOf s19).toNat)
 case atStart => exact ⟨0, some ⟨w3.heap.size, 0, none⟩, 1, by omega, rfl, rfl, START, HB34⟩
 case round =>
  obtain ⟨k, A, c, hk, rfl, rfl, HO, HB⟩ := hrel;obtain ⟨wo, rfl⟩ : ∃ wo : World, wo = wr := ⟨_, rfl⟩;clear START;obtain ⟨xs, hxs⟩ : ∃ xs, xs = allK m t k := ⟨_, rfl⟩;have hxl : xs.length <= k + 1 := by rw [hxs]; exact allK_len m t k
  rw [<- hxs] at HO ⊢;have HXS := hZ hxs;clear hxs;by_cases hlt : k < nd
  ·obtain ⟨d, hd⟩ : ∃ d, m.decs[k]? = some d := ⟨_, List.getElem?_eq_getElem (by rw [<- HND.out]; exact hlt)⟩
   obtain ⟨g, o, v0, v1, v2, v3, v4, v5, v6, rfl, hg, b0, b1, b2, b3, b4, b5, b6, b7, b8, us, zs⟩ := HD.out.de hd;obtain ⟨Cn, cC, Cs, dC, ev, -⟩ := us.parts;simp only [List.cons.injEq, and_true] at ev;obtain ⟨rfl, rfl, rfl, rfl, rfl, rfl, rfl⟩ := ev;have B02 := below_over HW.out (below_over HB3.out HB.out);have q := fun o v (hv : w0.cell? ⟨g, o, none⟩ = some v) => (B02.cell (p := ⟨g, o, none⟩) hg).trans hv
   have a0 := q _ _ b0;have a1 := q _ _ b1;have a2 := q _ _ b2;have a3 := q _ _ b3;have a4 := q _ _ b4;have a5 := q _ _ b5;have a6 := q _ _ b6;have a7 := q _ _ b7;have a8 := q _ _ b8;obtain ⟨w8, hw8⟩ : ∃ w8, w8 = wo.alloc (.cells #[.int .i64 d.kind, .string d.name, .int .i64 d.typ.kind, .string d.typ.pkg, .int .i64 d.typ.major, .string d.typ.mod, .string d.typ.name, .slice Cn d.typ.names.length cC, .slice Cs d.typ.subs.length dC] 191) := ⟨_, rfl⟩;have B8 : Below wo.heap.size wo w8 := by rw [hw8]; exact below_new (Below.refl _ _) _
   have Y8 : w8.heap[wo.heap.size]? = some (.cells #[.int .i64 d.kind, .string d.name, .int .i64 d.typ.kind, .string d.typ.pkg, .int .i64 d.typ.major, .string d.typ.mod, .string d.typ.name, .slice Cn d.typ.names.length cC, .slice Cs d.typ.subs.length dC] 191 (0, 0)) := by rw [hw8]; exact heap_alloc_new wo _
   have HY8 := hZ Y8;have HW8 := hZ hw8;have HB8 : Hid (Below w3.heap.size w3 w8) := hZ (below_over HB.out B8);have HO8 := hZ (HO.out.keep (w' := w8) fun b _ hb => B8.block b hb);have HUS := hZ us;have CN := hZ (has_ment w8 Am cm L d.name (HST.out w8 HB8.out) (by omega));have HDD := hZ hd;obtain ⟨r, hr⟩ : ∃ r, r = reachB (entries m) (saidT m t) k := ⟨_, rfl⟩
   have MEM : Hid (∀ b : Bool, (b = true ↔ d.name ∈ L) -> b = r) := hZ (fun b hb => by
    rw [hr, Bool.eq_iff_iff, hb, HL.out, ment_mem HOK.out hd])
   have HR := hZ hr;have hk0 : (0 : Int) <= k := by omega
   have hk1 : (k : Int) < nd := by omega
   clear hw8 B8 us zs hd q b0 b1 b2 b3 b4 b5 b6 b7 b8 B02 hr HO;go_upto_region 6 with fail
   rw [<- HW8.out];clear a0 a1 a2 a3 a4 a5 a6 a7 a8 HW8;obtain ⟨y0, y1⟩ := cq2 Y8;simp at y0 y1;by_cases h3 : d.kind = 3
   ·have q3 : (d.kind == 3) = true := by rw [h3]; rfl
    have H3 := hZ h3;clear h3;go_wp2_with fail
    refine CN.out.mono ?_; rintro e w9 ⟨r9, rfl, hr9, rfl⟩
    obtain rfl := MEM.out r9 hr9;clear CN hr9;cases r9 with
    | false =>
     have NX : Hid (allK m t (k + 1) = xs) := hZ (by rw [HXS.out]; exact allK_no HDD.out (.inr HR.out.symm));clear Y8 y0 y1 q3;go_wp2_with fail
     go_roundw
     case rel => exact ⟨k + 1, A, c, by omega, by go_num, by rw [NX.out], by rw [NX.out]; exact HO8, HB8⟩
     case measure => simp [intOf]; omega
    | true =>
     have NX : Hid (allK m t (k + 1) = xs ++ [d.typ]) := hZ (by rw [HXS.out]; exact allK_yes HDD.out H3.out HR.out.symm);have y2 := cZ Y8 2;have y3 := cZ Y8 3;have y4 := cZ Y8 4;have y5 := cZ Y8 5;have y6 := cZ Y8 6;have y7 := cZ Y8 7;have y8 := cZ Y8 8;simp at y2 y3 y4 y5 y6 y7 y8;clear Y8 q3;obtain ⟨C, k1, k2, k3, k4⟩ := HO8.out;have hMX : xs.length + 1 <= maxLen := by unfold maxLen; omega
     have hs8 : w3.heap.size <= w9.heap.size := HB8.out.size;have hAL : ∀ oo, w3.heap.size <= (w9.alloc oo).heap.size := fun oo => by have e1 : (w9.alloc oo).heap.size = w9.heap.size + 1 := (by simp); omega
     have hNW : ∀ oc, (w9.alloc oc).ownsRow w3.heap.size 50 7 (.slice A xs.length c) xs.length C.flatten := fun oc => k3.alloc oc
     go_upto_region 8 with (first | (refine wpList_append_lies _ rfl (.tmp 32) (.tmp 35) 48 rfl w3.heap.size 50 i0 _ 7 112 Tryz.underlying48 hi hz0 hz1 hz2 (by rfl) (by decide) (.slice A xs.length c) xs.length _ rfl (hNW _) ⟨w9.heap.size, 0, none⟩ 1 1 [.int .i64 d.typ.kind, .string d.typ.pkg, .int .i64 d.typ.major, .string d.typ.mod, .string d.typ.name, .slice Cn d.typ.names.length cC, .slice Cs d.typ.subs.length dC] rfl rfl (fun p u hq => by rw [WideShapes.add_plain, Nat.zero_add, cZ (heap_alloc_new w9 _), <- hq, <- List.getElem?_toArray]) (fun u hu => by simp at hu; rcases hu with rfl | rfl | rfl | rfl | rfl | rfl | rfl <;> rfl) Nat.one_pos hMX (by omega) (hAL _) _ rfl ?_; intro gb cap w10 hown hgrow hat hlt3))
     have OWN : Hid (OwnT w0 w10 w3.heap.size (.slice (some ⟨gb, 0, none⟩) (xs ++ [d.typ]).length cap) (xs ++ [d.typ])) := hZ (by
      rw [List.length_append];exact OwnT.more k1 k2 k4 HUS.out hown)
     have HB10 : Hid (Below w3.heap.size w3 w10) := hZ (below_grown (below_new HB8.out _) (hAL _) (hNW _) hgrow);have hxl2 : (xs ++ [d.typ]).length = xs.length + 1 := by simp
     have HX2 := hZ hxl2;clear hown hgrow hat hlt3 hNW hAL y0 y1 y2 y3 y4 y5 y6 y7 y8 hxl2;go_wp2_with fail
     go_roundw
     case rel => exact ⟨k + 1, _, _, by omega, by go_num, by rw [NX.out, HX2.out], by rw [NX.out]; exact OWN, HB10⟩
     case measure => simp [intOf]; omega
   ·have q3 : (d.kind == 3) = false := by simpa using h3
    have NX : Hid (allK m t (k + 1) = xs) := hZ (by rw [HXS.out]; exact allK_no HDD.out (.inl h3));clear h3 Y8 CN;go_wp2_with fail
    go_roundw
    case rel => exact ⟨k + 1, A, c, by omega, by go_num, by rw [NX.out], by rw [NX.out]; exact HO8, HB8⟩
    case measure => simp [intOf]; omega
  ·have hkn : k = nd := by omega
   have RES : Hid (xs = allK m t nd) := hZ (by rw [HXS.out, hkn]);clear hkn;go_wp2_with fail
   go_ret;exact ⟨A, c, by rw [<- RES.out]; rfl, by rw [<- RES.out]; exact HO.out.mono HB3.out.size, below_over HB3.out HB.out⟩
def SubsK (w0 w : World) (kb : Nat) (A : Option Addr) (l : List Ty) : Prop :=
  ∀ i t, l[i]? = some t -> ∃ (g o : Nat) (v0 v1 v2 v3 v4 v5 v6 : Value), A = some ⟨g, o, none⟩ /\ g < w.heap.size /\ g ≠ kb /\ w.cell? ⟨g, o + i * 7, none⟩ = some v0 /\ w.cell? ⟨g, o + i * 7 + 1, none⟩ = some v1 /\ w.cell? ⟨g, o + i * 7 + 2, none⟩ = some v2 /\
    w.cell? ⟨g, o + i * 7 + 3, none⟩ = some v3 /\ w.cell? ⟨g, o + i * 7 + 4, none⟩ = some v4 /\ w.cell? ⟨g, o + i * 7 + 5, none⟩ = some v5 /\ w.cell? ⟨g, o + i * 7 + 6, none⟩ = some v6 /\ TyAt w0 [v0, v1, v2, v3, v4, v5, v6] t
theorem SubsK.grown {w0 w w' : World} {kb : Nat} {A : Option Addr} {l : List Ty} (h : SubsK w0 w kb A l) (hg : w.grownBy w' (some kb)) : SubsK w0 w' kb A l := fun i t ht => by
  obtain ⟨g, o, v0, v1, v2, v3, v4, v5, v6, e, h1, h2, c0, c1, c2, c3, c4, c5, c6, hT⟩ := h i t ht;have cc := fun (q : Nat) (v : Value) (hv : w.cell? ⟨g, q, none⟩ = some v) => (World.cell?_of_block (w := w) (w' := w') (a := ⟨g, q, none⟩) (hg.block g h1 (fun e => h2 (Option.some.inj e)))).trans hv
  exact ⟨g, o, v0, v1, v2, v3, v4, v5, v6, e, Nat.lt_of_lt_of_le h1 hg.size, h2, cc _ _ c0, cc _ _ c1, cc _ _ c2, cc _ _ c3, cc _ _ c4, cc _ _ c5, cc _ _ c6, hT⟩
theorem OwnT.subs {w0 w : World} {lo kb n c : Nat} {A : Option Addr} {xs : List Ty} (h : OwnT w0 w lo (.slice A n c) xs) (hk : kb < lo) : SubsK w0 w kb A xs := fun i x hx => by
  obtain ⟨C, h1, h2, h3, h4⟩ := h;have hi := (List.getElem?_eq_some_iff.1 hx).1;have hl : C[i]? = some C[i] := List.getElem?_eq_getElem (by omega);have hT := h4 i _ x hl hx;rcases h3.2 with ⟨e, h0⟩ | ⟨g, cap, cur, hv, hB, hg, -, -, hcl, htake⟩
  · omega
  · cases hv
    have cell : ∀ (j : Nat) (v : Value), C[i][j]? = some v -> w.cell? ⟨g, 0 + i * 7 + j, none⟩ = some v := fun j v hv => by
      have hj := (List.getElem?_eq_some_iff.1 hv).1;rw [h2 _ (List.getElem_mem (by omega))] at hj;have hf := flatk_at C h2 i j _ hl hj;rw [cZ hg, <- Array.getElem?_toList];have e2 : (cur.toList.take (xs.length * 7))[i * 7 + j]? = C[i][j]? := by rw [htake, hf]
      rw [List.getElem?_take] at e2;split at e2
      · rw [Nat.zero_add, e2]; exact hv
      · omega
    obtain ⟨v0, v1, v2, v3, v4, v5, v6, e⟩ := list7 C[i] hT.len;rw [e] at cell hT;exact ⟨g, 0, v0, v1, v2, v3, v4, v5, v6, rfl, (Array.getElem?_eq_some_iff.1 hg).1, by omega, cell 0 _ rfl, cell 1 _ rfl, cell 2 _ rfl, cell 3 _ rfl, cell 4 _ rfl, cell 5 _ rfl, cell 6 _ rfl, hT⟩
theorem index_exp2 (w0 : World) (kb : Nat) (m : Mo) (pkg : ByteArray) (major : Int) (env : List If) (P : Ty -> Bool) (nb cb : Nat) (As : Option Addr) (cs n : Nat) (ss : List Ty) (w : World) (hn : ss.length = n) (hz : n <= 9223372036854775807) (hS : SubsK w0 w kb As ss)
    (hk0 : w0.heap.size <= kb) (hw : Below w0.heap.size w0 w) (hkm : PlMap w0 w kb m pkg major env)
    (IH : ∀ s, s ∈ ss -> ∀ (l : List Value) (wx : World), TyAt w0 l s -> Below w0.heap.size w0 wx -> PlMap w0 wx kb m pkg major env -> w.grownBy wx (some kb) -> Calls Tryz.prog 124 #[.agg l.toArray, .pointer (some ⟨nb, 0, none⟩), .pointer (some ⟨cb, 0, none⟩)] wx (FlOut w0 wx kb m pkg major env (P s))) :
    Calls Tryz.prog 154 #[.slice As n cs, .func (.func 124) #[] #[.pointer (some ⟨nb, 0, none⟩), .pointer (some ⟨cb, 0, none⟩)]] w fun e w' => ∃ r : Int, e = .returned (.int .i64 r) /\ decide (0 <= r) = ss.any P /\ PlMap w0 w' kb m pkg major env /\ w.grownBy w' (some kb) := by
  have HS := hZ hS;have HN := hZ hn;have HIH := hZ IH;have HW := hZ hw;have HKM := hZ hkm;have HK0 := hZ hk0;clear hS hn IH hw hkm hk0;go_enter Tryz.func154, Tryz.ntmps154
  go_wp2_with fail
  go_loopw [8] (fun i wr => ∃ k : Nat, k <= n /\ i = .int .i64 k /\ Hid (∀ j s, j < k -> ss[j]? = some s -> P s = false) /\ Hid (PlMap w0 wr kb m pkg major env /\ w.grownBy wr (some kb))) (fun i _ => n - (intOf i).toNat)
  case atStart => exact ⟨0, by omega, rfl, hZ (fun j s h => by omega), hZ ⟨HKM.out, grown_of (Below.refl _ _)⟩⟩
  case round =>
    obtain ⟨k, hk, rfl, HP, HB⟩ := hrel;obtain ⟨wo, rfl⟩ : ∃ wo : World, wo = wr := ⟨_, rfl⟩;have hbo := below_grow HW.out HB.out.2 HK0.out;by_cases hlt : k < n
    · obtain ⟨s, hs⟩ : ∃ s, ss[k]? = some s := ⟨_, List.getElem?_eq_getElem (by rw [HN.out]; exact hlt)⟩
      obtain ⟨g, o, u0, u1, u2, u3, u4, u5, u6, rfl, hg, hgk, k0, k1, k2, k3, k4, k5, k6, hs7⟩ := HS.out k s hs;have cc := fun (q : Nat) (v : Value) (hv : w.cell? ⟨g, q, none⟩ = some v) => (World.cell?_of_block (w := w) (w' := wo) (a := ⟨g, q, none⟩) (HB.out.2.block g hg (fun e => hgk (Option.some.inj e)))).trans hv
      have h0 := cc _ _ k0;have h1 := cc _ _ k1;have h2 := cc _ _ k2;have h3 := cc _ _ k3;have h4 := cc _ _ k4;have h5 := cc _ _ k5;have h6 := cc _ _ k6;have IHs := hZ (HIH.out s (List.mem_of_getElem? hs) [u0, u1, u2, u3, u4, u5, u6] wo hs7 hbo HB.out.1 HB.out.2);have HSS := hZ hs;clear hs7 hs hbo cc k0 k1 k2 k3 k4 k5 k6 hg hgk;rcases hid_or (P s) with hp | hp
      · go_wp2_with fail
        refine IHs.out.mono ?_; rintro e w2 ⟨rfl, hm2, hg2⟩; rw [hp.out]
        have HB2 : Hid (PlMap w0 w2 kb m pkg major env /\ w.grownBy w2 (some kb)) := hZ ⟨hm2, grown_over HB.out.2 hg2⟩;clear h0 h1 h2 h3 h4 h5 h6 hm2 hg2;go_wp2_with fail
        go_roundw
        case rel => exact ⟨k + 1, by omega, by go_num, hZ (fun j q hj hq => by
          rcases Nat.lt_or_ge j k with a | a
          · exact HP.out j q a hq
          · rw [show j = k by omega, HSS.out] at hq
            obtain rfl := Option.some.inj hq;exact hp.out), HB2⟩
        case measure => simp [intOf]; omega
      · have R : Hid (decide (0 <= (k : Int)) = ss.any P) := hZ (by
          rw [List.any_eq_true.2 ⟨s, List.mem_of_getElem? HSS.out, hp.out⟩]; simp)
        go_wp2_with fail
        refine IHs.out.mono ?_; rintro e w2 ⟨rfl, hm2, hg2⟩; rw [hp.out]
        have HB2 : Hid (PlMap w0 w2 kb m pkg major env /\ w.grownBy w2 (some kb)) := hZ ⟨hm2, grown_over HB.out.2 hg2⟩;clear h0 h1 h2 h3 h4 h5 h6 hm2 hg2;go_wp2_with fail
        go_ret;exact ⟨_, rfl, R.out, HB2.out⟩
    · have R : Hid (decide (0 <= (-1 : Int)) = ss.any P) := hZ (by
        have : ss.any P = false := by
          rw [List.any_eq_false];intro s hs;obtain ⟨j, hj⟩ := List.getElem?_of_mem hs;have hjl := (List.getElem?_eq_some_iff.1 hj).1;rw [HP.out j s (by rw [HN.out] at hjl; omega) hj]; decide
        rw [this]; rfl)
      go_wp2_with fail
      go_ret;exact ⟨_, rfl, R.out, HB.out⟩
theorem contains_exp2 (w0 : World) (kb : Nat) (m : Mo) (pkg : ByteArray) (major : Int) (env : List If) (P : Ty -> Bool) (nb cb : Nat) (As : Option Addr) (cs n : Nat) (ss : List Ty) (w : World) (hn : ss.length = n) (hz : n <= 9223372036854775807) (hS : SubsK w0 w kb As ss)
    (hk0 : w0.heap.size <= kb) (hw : Below w0.heap.size w0 w) (hkm : PlMap w0 w kb m pkg major env)
    (IH : ∀ s, s ∈ ss -> ∀ (l : List Value) (wx : World), TyAt w0 l s -> Below w0.heap.size w0 wx -> PlMap w0 wx kb m pkg major env -> w.grownBy wx (some kb) -> Calls Tryz.prog 124 #[.agg l.toArray, .pointer (some ⟨nb, 0, none⟩), .pointer (some ⟨cb, 0, none⟩)] wx (FlOut w0 wx kb m pkg major env (P s))) :
    Calls Tryz.prog 126 #[.slice As n cs, .func (.func 124) #[] #[.pointer (some ⟨nb, 0, none⟩), .pointer (some ⟨cb, 0, none⟩)]] w (FlOut w0 w kb m pkg major env (ss.any P)) := by
  have HC := hZ (index_exp2 w0 kb m pkg major env P nb cb As cs n ss w hn hz hS hk0 hw hkm IH);clear hn hS IH hk0 hw hkm;go_enter Tryz.func126, Tryz.ntmps126
  go_wp2_with fail
  refine HC.out.mono ?_; rintro e w2 ⟨r, rfl, hr, hb2⟩
  have HR := hZ hr;clear hr HC;go_wp2_with fail
  go_ret;exact ⟨ret_bool HR.out.symm, hb2⟩
end Go.Proofs.YtddlmigofilejaaGreat
namespace Go.Proofs.YtddlmigofilejaaGreat
open Go.RowKit Go.Shelf
open Go.Sort Go.Maps
open M
theorem ck_cases {w w' : World} {m : Mo} {e : Ending} (h : CkAny w m e w') : (e = .returned .nilIface /\ mayM m = true /\ Ok7 m) \/ (∃ T x, e = .returned (.iface T x) /\ ¬ (mayM m = true /\ Ok7 m)) := by
  rcases h with ⟨hm, rfl⟩ | ⟨hm, h⟩
  · exact .inr ⟨_, _, rfl, fun h => by rw [hm] at h; cases h.1⟩
  · unfold CkOut at h
    cases hc : check7 m with
    | none => rw [hc] at h; exact .inl ⟨h, hm, check7_none.1 hc⟩
    | some q =>
      rw [hc] at h;obtain ⟨g, rfl, -⟩ := h;exact .inr ⟨_, _, rfl, fun h => by have := check7_none.2 h.2; rw [hc] at this; cases this⟩
end Go.Proofs.YtddlmigofilejaaGreat
namespace Go.Proofs.YtddlmigofilejaaGreat
open Go Go.RowKit Go.Shelf
open Go.Sort Go.Maps
open M
def MayN (m : Mo) (pkg : ByteArray) (major : Int) (env : List If) : Prop := (mayM m = true /\ Ok7 m) /\ mayT (openT m pkg major ⟨#[84]⟩) = true /\ env.length <= 100
theorem mayN_any (m : Mo) (pkg : ByteArray) (major : Int) (env : List If) (kb : Nat) (Ai : Option Addr) (ci : Nat) (Ad : Option Addr) (cd : Nat) (Ae : Option Addr) (ce : Nat) (w : World) (h : NsAt w [.string m.name, .slice Ai m.imps.length ci, .slice Ad m.decs.length cd, .string pkg, .int .i64 major, .slice Ae env.length ce, .map (some kb)] m pkg major env kb)
    (hMo : MoAt w [.string m.name, .slice Ai m.imps.length ci, .slice Ad m.decs.length cd] m) (hM : ∀ d ∈ m.decs, many d.typ <= 9000) (hcap : CapsAt [.string m.name, .slice Ai m.imps.length ci, .slice Ad m.decs.length cd] m) :
    Calls Tryz.prog 122 #[.agg #[.string m.name, .slice Ai m.imps.length ci, .slice Ad m.decs.length cd, .string pkg, .int .i64 major, .slice Ae env.length ce, .map (some kb)]] w fun e w' => ∃ b : Bool, e = .returned (.bool b) /\ (b = true ↔ MayN m pkg major env) /\ Below w.heap.size w w' := by
  have HNS := hZ h;obtain ⟨A1, c1, A2, c2, A3, c3, e, hz1, -, -, hz4, hz5, -⟩ := h;clear e;obtain ⟨ne, hne⟩ : ∃ ne, ne = env.length := ⟨_, rfl⟩;have HNE := hZ hne;obtain ⟨wb, hwb⟩ : ∃ wb, wb = w.alloc (.cells #[.string m.name, .slice Ai m.imps.length ci, .slice Ad m.decs.length cd, .string pkg, .int .i64 major, .slice Ae ne ce, .map (some kb)] 157) := ⟨_, rfl⟩;have B0 : Below w.heap.size w wb := by rw [hwb]; exact below_new (Below.refl _ _) _
  have X0 : wb.heap[w.heap.size]? = some (.cells #[.string m.name, .slice Ai m.imps.length ci, .slice Ad m.decs.length cd, .string pkg, .int .i64 major, .slice Ae ne ce, .map (some kb)] 157 (0, 0)) := by rw [hwb]; exact heap_alloc_new w _
  have hl0 : w.heap.size < wb.heap.size := by rw [hwb]; simp
  have CK := hZ (check7_any m _ wb (hMo.below B0) hM hcap);have HB0 := hZ B0;have HX0 := hZ X0;have HWB := hZ hwb;obtain ⟨x0, x1, x2⟩ := cq3 X0;simp at x0 x1 x2;rw [<- hne] at hz5 ⊢;clear B0 X0 hwb hMo hM hcap hne;go_enter Tryz.func122, Tryz.ntmps122
  go_upto_region 1 with fail
  rw [<- HWB.out];go_wp2_with fail
  refine CK.out.mono ?_; rintro e w2 ⟨hck, hb2⟩
  have HB2 := hZ (below_over HB0.out hb2);have X2 := (hb2.block _ hl0).trans HX0.out;have hl2 := Nat.lt_of_lt_of_le hl0 hb2.size;have HX2 := hZ X2;clear x0 x1 x2 hb2 CK;rcases ck_cases hck with ⟨rfl, hok⟩ | ⟨T, x, rfl, hno⟩
  · have HOK := hZ hok
    have OC := hZ (openN_any m pkg major env kb ⟨#[84]⟩ _ w2 (HNS.out.below HB2.out));rw [<- HNE.out] at OC;obtain ⟨y0, y1, y2, y3, y4, y5, y6⟩ := cq7 X2;simp at y0 y1 y2 y3 y4 y5 y6;clear hck hok X2;go_wp2_with fail
    refine OC.out.mono ?_; rintro e w3 ⟨rfl, hb3⟩
    have HB3 := hZ (below_over HB2.out hb3);have X3 := (hb3.block _ hl2).trans HX2.out;have hl3 := Nat.lt_of_lt_of_le hl2 hb3.size;have HX3 := hZ X3;have MC := hZ (mayK_any (openT m pkg major ⟨#[84]⟩) (.agg #[.int .i64 9, .string pkg, .int .i64 major, .string m.name, .string ⟨#[84]⟩, .slice none 0 0, .slice none 0 0]) w3 ⟨_, rfl, open_at w3 hz4 hz1 (by decide)⟩);obtain ⟨q, hq⟩ : ∃ q, q = mayT (openT m pkg major ⟨#[84]⟩) := ⟨_, rfl⟩;rw [<- hq] at MC;have HQ := hZ hq;clear y0 y1 y2 y3 y4 y5 y6 X3 hb3 OC hq;go_wp2_with fail
    refine MC.out.mono ?_; rintro e w4 ⟨rfl, hb4⟩
    have HB4 := hZ (below_over HB3.out hb4);have y5 := cZ ((hb4.block _ hl3).trans HX3.out) 5;simp at y5;clear hb4 MC;cases q with
    | false =>
      have RES : Hid ((false = true) ↔ MayN m pkg major env) := hZ ⟨fun h => (by cases h), fun h => by have := h.2.1; rw [<- HQ.out] at this; exact this⟩;go_wp2_with fail
      go_ret;exact ⟨_, rfl, RES.out, HB4.out⟩
    | true =>
      by_cases h1 : ne <= 100
      · have e1 : (ne : Int) <= 100 := by omega
        have RES : Hid (MayN m pkg major env) := hZ ⟨HOK.out, HQ.out.symm, by rw [<- HNE.out]; exact h1⟩;clear h1;go_wp2_with fail
        go_ret;exact ⟨_, rfl, by first | exact ⟨fun _ => RES.out, fun _ => rfl⟩ | exact ⟨fun _ => RES.out, fun _ => decide_eq_true e1⟩, HB4.out⟩
      · have e1 : ¬ (ne : Int) <= 100 := by omega
        have RES : Hid (¬ MayN m pkg major env) := hZ (fun h => absurd (by rw [HNE.out]; exact h.2.2) h1);clear h1;go_wp2_with fail
        go_ret;exact ⟨_, rfl, by first | exact ⟨fun h => (by cases h), fun h => absurd h RES.out⟩ | exact ⟨fun h => (by have := of_decide_eq_true h; omega), fun h => absurd h RES.out⟩, HB4.out⟩
  · have RES : Hid ((false = true) ↔ MayN m pkg major env) := hZ ⟨fun h => (by cases h), fun h => absurd h.1 hno⟩
    clear hck hno X2;go_wp2_with fail
    go_ret;exact ⟨_, rfl, RES.out, HB2.out⟩
end Go.Proofs.YtddlmigofilejaaGreat
