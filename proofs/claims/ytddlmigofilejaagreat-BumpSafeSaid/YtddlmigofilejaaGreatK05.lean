/-
  Several texts in one.
-/
import Derived.Test.YtddlmigofilejaaGreatK04
import Derived.Lib.AppendStr
import Derived.Lib.UnsafeStr
import Derived.Lib.OthersKept
import Derived.Laws.Externs
set_option maxRecDepth 100000
set_option maxHeartbeats 16000000
namespace Go.Proofs.YtddlmigofilejaaGreat
open M
def impHas (m : Mo) (s : ByteArray) : Bool := m.imps.any fun x => decide (x.asn = s)
def isTyp (s : ByteArray) (d : De) : Bool := !(d.kind == 4) && decide (d.name = s)
def typAt (m : Mo) (s : ByteArray) : Option Nat := m.decs.findIdx? (isTyp s)
mutual
def saidT (m : Mo) : Ty -> List Nat
  | .mk k _ _ d n _ ss => if k = 8 then (if d.size = 0 then (typAt m n).toList else []) else saidL m ss
def saidL (m : Mo) : List Ty -> List Nat
  | [] => []
  | t :: r => saidT m t ++ saidL m r
end
mutual
def wholeT (m : Mo) : Ty -> Bool
  | .mk k _ _ d n _ ss => if k = 8 then (if d.size = 0 then (typAt m n).isSome else impHas m d) else wholeL m ss
def wholeL (m : Mo) : List Ty -> Bool
  | [] => true
  | t :: r => wholeT m t && wholeL m r
end
theorem saidL_append (m : Mo) : ∀ a b, saidL m (a ++ b) = saidL m a ++ saidL m b
  | [], b => rfl
  | t :: r, b => by simp [saidL, saidL_append m r b]
theorem wholeL_append (m : Mo) : ∀ a b, wholeL m (a ++ b) = (wholeL m a && wholeL m b)
  | [], b => by simp [wholeL]
  | t :: r, b => by simp [wholeL, wholeL_append m r b, Bool.and_assoc]
theorem saidL_take (m : Mo) (l : List Ty) (k : Nat) (t : Ty) (h : l[k]? = some t) : saidL m (l.take (k + 1)) = saidL m (l.take k) ++ saidT m t := by
  rw [List.take_add_one, h, saidL_append]; simp [saidL]
theorem wholeL_take (m : Mo) (l : List Ty) (k : Nat) (t : Ty) (h : l[k]? = some t) : wholeL m (l.take (k + 1)) = (wholeL m (l.take k) && wholeT m t) := by
  rw [List.take_add_one, h, wholeL_append]; simp [wholeL]
theorem saidT_sub (m : Mo) (t : Ty) (h : t.kind ≠ 8) : saidT m t = saidL m t.subs := by
  cases t; unfold saidT; exact if_neg h
theorem wholeT_sub (m : Mo) (t : Ty) (h : t.kind ≠ 8) : wholeT m t = wholeL m t.subs := by
  cases t; unfold wholeT; exact if_neg h
theorem saidT_local (m : Mo) (t : Ty) (h : t.kind = 8) : saidT m t = if t.mod.size = 0 then (typAt m t.name).toList else [] := by
  cases t; unfold saidT; exact if_pos h
theorem wholeT_local (m : Mo) (t : Ty) (h : t.kind = 8) : wholeT m t = if t.mod.size = 0 then (typAt m t.name).isSome else impHas m t.mod := by
  cases t; unfold wholeT; exact if_pos h
theorem typAt_lt {m : Mo} {s : ByteArray} {i : Nat} (h : typAt m s = some i) : i < m.decs.length := by
  unfold typAt at h
  rw [List.findIdx?_eq_some_iff_getElem] at h;exact h.1
theorem said_lt (m : Mo) : ∀ (N : Nat) (t : Ty), many t <= N -> ∀ i ∈ saidT m t, i < m.decs.length := by
  intro N;induction N with
  | zero => intro t h; have := many_pos t; omega
  | succ N ih =>
    intro t hN i hi;by_cases hk : t.kind = 8
    · rw [saidT_local m t hk] at hi
      split at hi
      · exact typAt_lt (Option.mem_toList.1 hi)
      · cases hi
    · rw [saidT_sub m t hk] at hi
      have key : ∀ (l : List Ty), (∀ s ∈ l, many s <= N) -> ∀ i ∈ saidL m l, i < m.decs.length := by
        intro l;induction l with
        | nil => intro _ i hi; cases hi
        | cons a r ih2 =>
          intro h i hi;unfold saidL at hi
          rcases List.mem_append.1 hi with hi | hi
          · exact ih a (h a (by simp)) i hi
          · exact ih2 (fun s hs => h s (by simp [hs])) i hi
      exact key t.subs (fun s hs => by
        have := manyL_mem _ _ hs
        have e : many t = 1 + manyL t.subs := by cases t; rfl
        omega) i hi
theorem said_len (m : Mo) : ∀ (N : Nat) (t : Ty), many t <= N -> (saidT m t).length <= many t := by
  intro N;induction N with
  | zero => intro t h; have := many_pos t; omega
  | succ N ih =>
    intro t hN;have e : many t = 1 + manyL t.subs := by cases t; rfl
    by_cases hk : t.kind = 8
    · rw [saidT_local m t hk]
      split
      · cases typAt m t.name <;> simp <;> omega
      · simp
    · rw [saidT_sub m t hk]
      have key : ∀ (l : List Ty), (∀ s ∈ l, many s <= N) -> (saidL m l).length <= manyL l := by
        intro l;induction l with
        | nil => intro _; simp [saidL]
        | cons a r ih2 =>
          intro h;have h1 := ih a (h a (by simp));have h2 := ih2 (fun s hs => h s (by simp [hs]));simp only [saidL, manyL, List.length_append];omega
      have := key t.subs (fun s hs => by have := manyL_mem _ _ hs; omega)
      omega
structure En where
  at_ : Nat
  kind : Int
  said : List Nat
  whole : Bool
def entriesOf (m : Mo) (l : List De) : List En := l.mapIdx fun i d => ⟨i, d.kind, saidT m d.typ, wholeT m d.typ⟩
def entries (m : Mo) : List En := entriesOf m m.decs
theorem entries_len (m : Mo) : (entries m).length = m.decs.length := by simp [entries, entriesOf]
theorem entries_at {m : Mo} {i : Nat} {d : De} (h : m.decs[i]? = some d) : (entries m)[i]? = some ⟨i, d.kind, saidT m d.typ, wholeT m d.typ⟩ := by
  unfold entries entriesOf; rw [List.getElem?_mapIdx, h]; rfl
inductive Reach (E : List En) (l : List Nat) : Nat -> Prop
  | one {i : Nat} : i ∈ l -> Reach E l i
  | step {i j : Nat} {x : En} : Reach E l j -> E[j]? = some x -> i ∈ x.said -> Reach E l i
theorem Reach.mono {E : List En} {l l' : List Nat} {i : Nat} (h : Reach E l i) (hl : ∀ j ∈ l, Reach E l' j) : Reach E l' i := by
  induction h with
  | one h => exact hl _ h
  | step _ hx hi ih => exact .step ih hx hi
open Classical in
noncomputable def reachB (E : List En) (l : List Nat) (i : Nat) : Bool := decide (Reach E l i)
theorem reachB_iff {E : List En} {l : List Nat} {i : Nat} : reachB E l i = true ↔ Reach E l i := by unfold reachB; simp
structure Found (E : List En) (F : Nat -> Bool) (l : List Nat) (F' : Nat -> Bool) : Prop where
  old : ∀ i, F i = true -> F' i = true
  new : ∀ i ∈ l, F' i = true
  clo : ∀ i x, F' i = true -> F i = false -> E[i]? = some x -> ∀ j ∈ x.said, F' j = true
  only : ∀ i, F' i = true -> F i = true \/ Reach E l i
theorem Found.nil (E : List En) (F : Nat -> Bool) : Found E F [] F := ⟨fun _ h => h, fun i h => (by cases h), fun i x h h' => (by rw [h] at h'; cases h'), fun i h => .inl h⟩
theorem Found.skip {E : List En} {F F' : Nat -> Bool} {l : List Nat} {i : Nat} (h : Found E F l F') (hi : F' i = true) : Found E F (l ++ [i]) F' :=
  ⟨h.old, fun j hj => by
    rcases List.mem_append.1 hj with hj | hj
    · exact h.new j hj
    · rw [List.mem_singleton.1 hj]; exact hi, h.clo, fun j hj => (h.only j hj).imp id (fun r => r.mono fun k hk => .one (List.mem_append_left _ hk))⟩
theorem Found.more {E : List En} {F F1 F2 : Nat -> Bool} {l : List Nat} {i : Nat} {x : En} (h : Found E F l F1) (hx : E[i]? = some x) (h2 : Found E (fun j => if j = i then true else F1 j) x.said F2) : Found E F (l ++ [i]) F2 := by
  have hi : F2 i = true := h2.old i (by simp)
  have h12 : ∀ j, F1 j = true -> F2 j = true := fun j hj => h2.old j (by
    show (if j = i then true else F1 j) = true
    split
    · rfl
    · exact hj)
  refine ⟨fun j hj => h12 j (h.old j hj), fun j hj => ?_, fun j y h1 h0 hy k hk => ?_, fun j hj => ?_⟩
  · rcases List.mem_append.1 hj with hj | hj
    · exact h12 j (h.new j hj)
    · rw [List.mem_singleton.1 hj]; exact hi
  · by_cases e : j = i
    · subst e
      rw [hx] at hy; cases hy
      exact h2.new k hk
    · cases h1' : F1 j with
      | true => exact h12 k (h.clo j y h1' h0 hy k hk)
      | false => exact h2.clo j y h1 (by show (if j = i then true else F1 j) = false; rw [if_neg e]; exact h1') hy k hk
  · have hone : Reach E (l ++ [i]) i := .one (by simp)
    rcases h2.only j hj with h' | h'
    · have h' : (if j = i then true else F1 j) = true := h'
      split at h'
      · rename_i e; subst e; exact .inr hone
      · exact (h.only j h').imp id (fun r => r.mono fun k hk => .one (List.mem_append_left _ hk))
    · exact .inr (h'.mono fun k hk => .step hone hx hk)
theorem Found.all {E : List En} {l : List Nat} {F : Nat -> Bool} (h : Found E (fun _ => false) l F) (i : Nat) : F i = reachB E l i := by
  have h1 : ∀ i, Reach E l i -> F i = true := fun i hr => by
    induction hr with
    | one hi => exact h.new _ hi
    | step _ hx hi ih => exact h.clo _ _ ih rfl hx _ hi
  rw [Bool.eq_iff_iff, reachB_iff];exact ⟨fun hi => (h.only i hi).resolve_left (by simp), h1 i⟩
end Go.Proofs.YtddlmigofilejaaGreat
namespace Go.Proofs.YtddlmigofilejaaGreat
open Go.RowKit
open M
def fewB (t : Ty) : Bool := decide (0 <= fewT t 3000)
theorem fewB_any (t : Ty) (v : Value) (w : World) (hv : TyV w v t) :
    Calls Tryz.prog 17 #[v] w fun e w' => e = .returned (.bool (fewB t)) /\ Below w.heap.size w w' := by
  have HV := hZ hv;obtain ⟨l, rfl, hT⟩ := hv;obtain ⟨An, cn, As, cs, rfl, -, -, -, -, -, -, -⟩ := hT.parts;clear hT;have bd := few_bd t 3000 (by omega);unfold fewB
  go_enter Tryz.func17, Tryz.ntmps17
  go_wp2_with fail
  refine (few_any _ t (Nat.le_refl _) 3000 (by omega) (by omega) _ _ (HV.out.below (by first | exact below_new (Below.refl _ _) _ | exact Below.refl _ _))).mono ?_; rintro e w1 ⟨rfl, hb1⟩
  go_wp2_with fail
  go_ret;refine ⟨rfl, ?_⟩;first | exact hb1 | exact (below_new (Below.refl _ _) _).trans (hb1.mono (by simp))
mutual
def countT : Ty -> Int -> Int -> Bool × Int
  | .mk k p m d n ns ss, depth, c =>
    if 500 < c + 1 \/ 32 < depth \/ formT (.mk k p m d n ns ss) = false then (false, c + 1) else countL ss (depth + 1) (c + 1)
def countL : List Ty -> Int -> Int -> Bool × Int
  | [], _, c => (true, c)
  | t :: r, depth, c => if (countT t depth c).1 = true then countL r depth (countT t depth c).2 else (false, (countT t depth c).2)
end
theorem countT_eq (t : Ty) (d c : Int) : countT t d c = if 500 < c + 1 \/ 32 < d \/ formT t = false then (false, c + 1) else countL t.subs (d + 1) (c + 1) := by cases t; rfl
theorem countL_at {l : List Ty} {k : Nat} {s : Ty} (h : l[k]? = some s) (d c : Int) : countL (l.drop k) d c = if (countT s d c).1 = true then countL (l.drop (k + 1)) d (countT s d c).2 else (false, (countT s d c).2) := by
  have hk := (List.getElem?_eq_some_iff.1 h).1
  have e : l.drop k = s :: l.drop (k + 1) := by
    rw [List.drop_eq_getElem_cons hk];congr 1
    exact (List.getElem?_eq_some_iff.1 h).2
  rw [e]; rfl
mutual
theorem countT_is : ∀ (t : Ty) (d c : Int), c <= 500 -> ((countT t d c).1 = true ↔ allOk t = true /\ c + many t <= 500 /\ d + deep t <= 33) /\ ((countT t d c).1 = true -> (countT t d c).2 = c + many t) /\ c <= (countT t d c).2 /\ (countT t d c).2 <= 501
  | .mk k p m d' n ns ss, d, c, hc => by
    have hm : many (.mk k p m d' n ns ss) = 1 + manyL ss := rfl;have hd : deep (.mk k p m d' n ns ss) = deepL ss + 1 := rfl;have ha : allOk (.mk k p m d' n ns ss) = (ownOk (.mk k p m d' n ns ss) && allOkL ss) := rfl;have he : countT (.mk k p m d' n ns ss) d c = if 500 < c + 1 \/ 32 < d \/ formT (.mk k p m d' n ns ss) = false then (false, c + 1) else countL ss (d + 1) (c + 1) := rfl
    rw [he, hm, hd, ha, <- formT_own];by_cases h : 500 < c + 1 \/ 32 < d \/ formT (.mk k p m d' n ns ss) = false
    · rw [if_pos h]
      refine ⟨⟨fun h => by simp at h, fun ⟨h1, h2, h3⟩ => ?_⟩, fun h => by simp at h, by simp; omega, by simp; omega⟩;exfalso
      rcases h with h | h | h
      · omega
      · omega
      · rw [h] at h1; simp at h1
    · rw [if_neg h]
      have hf : formT (.mk k p m d' n ns ss) = true := by
        rcases hid_or (formT (.mk k p m d' n ns ss)) with e | e
        · exact absurd (.inr (.inr e.out)) h
        · exact e.out
      have h1 : ¬ 500 < c + 1 := fun x => h (.inl x)
      have h2 : ¬ 32 < d := fun x => h (.inr (.inl x))
      obtain ⟨a, b, l, u⟩ := countL_is ss (d + 1) (c + 1) (by omega) (by omega);refine ⟨?_, fun x => by rw [b x]; omega, by omega, u⟩;rw [a, hf];simp only [Bool.true_and];constructor
      · rintro ⟨x, y, z⟩; exact ⟨x, by omega, by omega⟩
      · rintro ⟨x, y, z⟩; exact ⟨x, by omega, by omega⟩
theorem countL_is : ∀ (l : List Ty) (d c : Int), c <= 500 -> d <= 33 -> ((countL l d c).1 = true ↔ allOkL l = true /\ c + manyL l <= 500 /\ d + deepL l <= 33) /\ ((countL l d c).1 = true -> (countL l d c).2 = c + manyL l) /\ c <= (countL l d c).2 /\ (countL l d c).2 <= 501
  | [], d, c, hc, hd => by
    have hm : manyL [] = 0 := rfl;have h2 : deepL [] = 0 := rfl;have ha : allOkL [] = true := rfl;have he : countL [] d c = (true, c) := rfl;rw [he, hm, h2, ha];exact ⟨⟨fun _ => ⟨rfl, by omega, by omega⟩, fun _ => rfl⟩, fun _ => by simp, by simp, by simp; omega⟩
  | t :: r, d, c, hc, hd => by
    have hm : manyL (t :: r) = many t + manyL r := rfl;have h2 : deepL (t :: r) = max (deep t) (deepL r) := rfl;have ha : allOkL (t :: r) = (allOk t && allOkL r) := rfl;have he : countL (t :: r) d c = if (countT t d c).1 = true then countL r d (countT t d c).2 else (false, (countT t d c).2) := rfl
    obtain ⟨a, b, l, u⟩ := countT_is t d c hc;rw [he, hm, h2, ha];by_cases h : (countT t d c).1 = true
    · rw [if_pos h]
      have e := b h;obtain ⟨x, y, z⟩ := a.1 h;obtain ⟨a2, b2, l2, u2⟩ := countL_is r d (countT t d c).2 (by omega) hd;refine ⟨?_, fun x => by rw [b2 x]; omega, by omega, u2⟩;rw [a2, x, e];simp only [Bool.true_and];constructor
      · rintro ⟨x', y', z'⟩; exact ⟨x', by omega, by omega⟩
      · rintro ⟨x', y', z'⟩; exact ⟨x', by omega, by omega⟩
    · rw [if_neg h]
      refine ⟨⟨fun h => by simp at h, fun ⟨x, y, z⟩ => ?_⟩, fun h => by simp at h, l, u⟩;exfalso
      simp only [Bool.and_eq_true] at x;exact h (a.2 ⟨x.1, by omega, by omega⟩)
end
def sizeT (t : Ty) : Nat := if mayT t = true then many t else 0
theorem may_iff (t : Ty) : mayT t = true ↔ (countT t 1 0).1 = true := by
  rw [(countT_is t 1 0 (by omega)).1];unfold mayT
  simp only [Bool.and_eq_true, decide_eq_true_eq];constructor
  · rintro ⟨⟨a, b⟩, c⟩; exact ⟨a, by omega, by omega⟩
  · rintro ⟨a, b, c⟩; exact ⟨⟨a, by omega⟩, by omega⟩
theorem size_pos (t : Ty) : decide (0 < sizeT t) = mayT t := by
  have := many_pos t
  unfold sizeT
  rcases hid_or (mayT t) with h | h
  · rw [h.out]; rfl
  · rw [h.out]; simp; omega
theorem formed_any (t : Ty) (v : Value) (w : World) (hv : TyV w v t) :
  Calls Tryz.prog 142 #[v] w fun e w' => e = .returned (.bool (formT t)) /\ Below w.heap.size w w' := by
 have HV := hZ hv
 obtain ⟨l, rfl, hT⟩ := hv
 obtain ⟨An, cn, As, cs, rfl, zp, zm, za, hzn, hz, hN, -⟩ := hT.parts
 have HNM := hZ hN
 clear hT hN
 have HF := hZ (formT_w t)
 generalize hn : t.subs.length = n at hz HF HV
 generalize hq : t.names.length = q at hzn HF HV
 have HQ := hZ hq
 clear hn hq
 by_cases hx : t.kind = 1
 ·skip
  have b1 : (t.kind == 1) = true := by rw [hx]; rfl
  by_cases n0 : n = 0
  ·have n0i : (((n : Nat) : Int) == 0) = true := by simp; omega
   by_cases q0 : q = 0
   ·have q0i : (((q : Nat) : Int) == 0) = true := by simp; omega
    rcases hid_or (noMore t) with um | um
    ·skip
     have R : Hid (formT t = false) := hZ (by
      rw [HF.out];unfold formW
      simp [hx, um.out])
     clear HF;clear hx n0 q0;as_aux_lemma =>
     rw [R.out];clear R;go_enter Tryz.func142, Tryz.ntmps142
     go_wp2_with fail
     go_quiet (fail)
     go_wp2_with fail
     refine (unnamed_any t _ _ (HV.out.below (below_drewN (below_new (Below.refl _ _) _) _))).mono ?_; rintro e w0 ⟨rfl, hb0⟩; rw [um.out]
     go_wp2_with fail
     go_ret;exact ⟨rfl, (below_drewN (below_new (Below.refl _ _) _) _).trans (hb0.mono (by simp))⟩
    ·skip
     have R : Hid (formT t = true) := hZ (by
      rw [HF.out];unfold formW
      simp [hx, n0, q0, um.out])
     clear HF;clear hx n0 q0;as_aux_lemma =>
     rw [R.out];clear R;go_enter Tryz.func142, Tryz.ntmps142
     go_wp2_with fail
     go_quiet (fail)
     go_wp2_with fail
     refine (unnamed_any t _ _ (HV.out.below (below_drewN (below_new (Below.refl _ _) _) _))).mono ?_; rintro e w0 ⟨rfl, hb0⟩; rw [um.out]
     go_wp2_with fail
     go_ret;exact ⟨rfl, (below_drewN (below_new (Below.refl _ _) _) _).trans (hb0.mono (by simp))⟩
   ·have q0i : (((q : Nat) : Int) == 0) = false := by simp; omega
    have R : Hid (formT t = false) := hZ (by
     rw [HF.out];unfold formW
     simp [hx, q0])
    clear HF;clear hx n0 q0;as_aux_lemma =>
    rw [R.out];clear R;go_enter Tryz.func142, Tryz.ntmps142
    go_wp2_with fail
    go_quiet (fail)
    go_wp2_with fail
    go_ret;exact ⟨rfl, below_drewN (below_new (Below.refl _ _) _) _⟩
  ·have n0i : (((n : Nat) : Int) == 0) = false := by simp; omega
   have R : Hid (formT t = false) := hZ (by
    rw [HF.out];unfold formW
    simp [hx, n0])
   clear HF;clear hx n0;as_aux_lemma =>
   rw [R.out];clear R;go_enter Tryz.func142, Tryz.ntmps142
   go_wp2_with fail
   go_quiet (fail)
   go_wp2_with fail
   go_ret;exact ⟨rfl, below_drewN (below_new (Below.refl _ _) _) _⟩
 have c1 : ¬ t.kind = 1 := hx
 have d1 : (t.kind == 1) = false := by simpa using hx
 clear hx
 by_cases hx : t.kind = 2
 ·skip
  have b1 : (t.kind == 1) = false := by rw [hx]; rfl
  have b2 : (t.kind == 2) = true := by rw [hx]; rfl
  by_cases n0 : n = 0
  ·have n0i : (((n : Nat) : Int) == 0) = true := by simp; omega
   by_cases q0 : q = 0
   ·have q0i : (((q : Nat) : Int) == 0) = true := by simp; omega
    rcases hid_or (noMore t) with um | um
    ·skip
     have R : Hid (formT t = false) := hZ (by
      rw [HF.out];unfold formW
      simp [hx, um.out])
     clear HF;clear hx n0 q0;as_aux_lemma =>
     rw [R.out];clear R;go_enter Tryz.func142, Tryz.ntmps142
     go_wp2_with fail
     go_quiet (fail)
     go_wp2_with fail
     refine (unnamed_any t _ _ (HV.out.below (below_drewN (below_new (Below.refl _ _) _) _))).mono ?_; rintro e w0 ⟨rfl, hb0⟩; rw [um.out]
     go_wp2_with fail
     go_ret;exact ⟨rfl, (below_drewN (below_new (Below.refl _ _) _) _).trans (hb0.mono (by simp))⟩
    ·skip
     have R : Hid (formT t = true) := hZ (by
      rw [HF.out];unfold formW
      simp [hx, n0, q0, um.out])
     clear HF;clear hx n0 q0;as_aux_lemma =>
     rw [R.out];clear R;go_enter Tryz.func142, Tryz.ntmps142
     go_wp2_with fail
     go_quiet (fail)
     go_wp2_with fail
     refine (unnamed_any t _ _ (HV.out.below (below_drewN (below_new (Below.refl _ _) _) _))).mono ?_; rintro e w0 ⟨rfl, hb0⟩; rw [um.out]
     go_wp2_with fail
     go_ret;exact ⟨rfl, (below_drewN (below_new (Below.refl _ _) _) _).trans (hb0.mono (by simp))⟩
   ·have q0i : (((q : Nat) : Int) == 0) = false := by simp; omega
    have R : Hid (formT t = false) := hZ (by
     rw [HF.out];unfold formW
     simp [hx, q0])
    clear HF;clear hx n0 q0;as_aux_lemma =>
    rw [R.out];clear R;go_enter Tryz.func142, Tryz.ntmps142
    go_wp2_with fail
    go_quiet (fail)
    go_wp2_with fail
    go_ret;exact ⟨rfl, below_drewN (below_new (Below.refl _ _) _) _⟩
  ·have n0i : (((n : Nat) : Int) == 0) = false := by simp; omega
   have R : Hid (formT t = false) := hZ (by
    rw [HF.out];unfold formW
    simp [hx, n0])
   clear HF;clear hx n0;as_aux_lemma =>
   rw [R.out];clear R;go_enter Tryz.func142, Tryz.ntmps142
   go_wp2_with fail
   go_quiet (fail)
   go_wp2_with fail
   go_ret;exact ⟨rfl, below_drewN (below_new (Below.refl _ _) _) _⟩
 have c2 : ¬ t.kind = 2 := hx
 have d2 : (t.kind == 2) = false := by simpa using hx
 clear hx
 by_cases hx : t.kind = 3
 ·skip
  have b1 : (t.kind == 1) = false := by rw [hx]; rfl
  have b2 : (t.kind == 2) = false := by rw [hx]; rfl
  have b3 : (t.kind == 3) = true := by rw [hx]; rfl
  by_cases n0 : n = 0
  ·have n0i : (((n : Nat) : Int) == 0) = true := by simp; omega
   by_cases q0 : q = 0
   ·have q0i : (((q : Nat) : Int) == 0) = true := by simp; omega
    rcases hid_or (noMore t) with um | um
    ·skip
     have R : Hid (formT t = false) := hZ (by
      rw [HF.out];unfold formW
      simp [hx, um.out])
     clear HF;clear hx n0 q0;as_aux_lemma =>
     rw [R.out];clear R;go_enter Tryz.func142, Tryz.ntmps142
     go_wp2_with fail
     go_quiet (fail)
     go_wp2_with fail
     refine (unnamed_any t _ _ (HV.out.below (below_drewN (below_new (Below.refl _ _) _) _))).mono ?_; rintro e w0 ⟨rfl, hb0⟩; rw [um.out]
     go_wp2_with fail
     go_ret;exact ⟨rfl, (below_drewN (below_new (Below.refl _ _) _) _).trans (hb0.mono (by simp))⟩
    ·skip
     have R : Hid (formT t = true) := hZ (by
      rw [HF.out];unfold formW
      simp [hx, n0, q0, um.out])
     clear HF;clear hx n0 q0;as_aux_lemma =>
     rw [R.out];clear R;go_enter Tryz.func142, Tryz.ntmps142
     go_wp2_with fail
     go_quiet (fail)
     go_wp2_with fail
     refine (unnamed_any t _ _ (HV.out.below (below_drewN (below_new (Below.refl _ _) _) _))).mono ?_; rintro e w0 ⟨rfl, hb0⟩; rw [um.out]
     go_wp2_with fail
     go_ret;exact ⟨rfl, (below_drewN (below_new (Below.refl _ _) _) _).trans (hb0.mono (by simp))⟩
   ·have q0i : (((q : Nat) : Int) == 0) = false := by simp; omega
    have R : Hid (formT t = false) := hZ (by
     rw [HF.out];unfold formW
     simp [hx, q0])
    clear HF;clear hx n0 q0;as_aux_lemma =>
    rw [R.out];clear R;go_enter Tryz.func142, Tryz.ntmps142
    go_wp2_with fail
    go_quiet (fail)
    go_wp2_with fail
    go_ret;exact ⟨rfl, below_drewN (below_new (Below.refl _ _) _) _⟩
  ·have n0i : (((n : Nat) : Int) == 0) = false := by simp; omega
   have R : Hid (formT t = false) := hZ (by
    rw [HF.out];unfold formW
    simp [hx, n0])
   clear HF;clear hx n0;as_aux_lemma =>
   rw [R.out];clear R;go_enter Tryz.func142, Tryz.ntmps142
   go_wp2_with fail
   go_quiet (fail)
   go_wp2_with fail
   go_ret;exact ⟨rfl, below_drewN (below_new (Below.refl _ _) _) _⟩
 have c3 : ¬ t.kind = 3 := hx
 have d3 : (t.kind == 3) = false := by simpa using hx
 clear hx
 by_cases hx : t.kind = 4
 ·skip
  have b1 : (t.kind == 1) = false := by rw [hx]; rfl
  have b2 : (t.kind == 2) = false := by rw [hx]; rfl
  have b3 : (t.kind == 3) = false := by rw [hx]; rfl
  have b4 : (t.kind == 4) = true := by rw [hx]; rfl
  by_cases n1 : n = 1
  ·have n1i : (((n : Nat) : Int) == 1) = true := by simp; omega
   by_cases q0 : q = 0
   ·have q0i : (((q : Nat) : Int) == 0) = true := by simp; omega
    rcases hid_or (noMore t) with um | um
    ·skip
     have R : Hid (formT t = false) := hZ (by
      rw [HF.out];unfold formW
      simp [hx, um.out])
     clear HF;clear hx q0 n1;as_aux_lemma =>
     rw [R.out];clear R;go_enter Tryz.func142, Tryz.ntmps142
     go_wp2_with fail
     go_quiet (fail)
     go_wp2_with fail
     refine (unnamed_any t _ _ (HV.out.below (below_drewN (below_new (Below.refl _ _) _) _))).mono ?_; rintro e w0 ⟨rfl, hb0⟩; rw [um.out]
     go_wp2_with fail
     go_ret;exact ⟨rfl, (below_drewN (below_new (Below.refl _ _) _) _).trans (hb0.mono (by simp))⟩
    ·skip
     have R : Hid (formT t = true) := hZ (by
      rw [HF.out];unfold formW
      simp [hx, n1, q0, um.out])
     clear HF;clear hx q0 n1;as_aux_lemma =>
     rw [R.out];clear R;go_enter Tryz.func142, Tryz.ntmps142
     go_wp2_with fail
     go_quiet (fail)
     go_wp2_with fail
     refine (unnamed_any t _ _ (HV.out.below (below_drewN (below_new (Below.refl _ _) _) _))).mono ?_; rintro e w0 ⟨rfl, hb0⟩; rw [um.out]
     go_wp2_with fail
     go_ret;exact ⟨rfl, (below_drewN (below_new (Below.refl _ _) _) _).trans (hb0.mono (by simp))⟩
   ·have q0i : (((q : Nat) : Int) == 0) = false := by simp; omega
    have R : Hid (formT t = false) := hZ (by
     rw [HF.out];unfold formW
     simp [hx, q0])
    clear HF;clear hx q0 n1;as_aux_lemma =>
    rw [R.out];clear R;go_enter Tryz.func142, Tryz.ntmps142
    go_wp2_with fail
    go_quiet (fail)
    go_wp2_with fail
    go_ret;exact ⟨rfl, below_drewN (below_new (Below.refl _ _) _) _⟩
  ·have n1i : (((n : Nat) : Int) == 1) = false := by simp; omega
   have R : Hid (formT t = false) := hZ (by
    rw [HF.out];unfold formW
    simp [hx, n1])
   clear HF;clear hx n1;as_aux_lemma =>
   rw [R.out];clear R;go_enter Tryz.func142, Tryz.ntmps142
   go_wp2_with fail
   go_quiet (fail)
   go_wp2_with fail
   go_ret;exact ⟨rfl, below_drewN (below_new (Below.refl _ _) _) _⟩
 have c4 : ¬ t.kind = 4 := hx
 have d4 : (t.kind == 4) = false := by simpa using hx
 clear hx
 by_cases hx : t.kind = 5
 ·skip
  have b1 : (t.kind == 1) = false := by rw [hx]; rfl
  have b2 : (t.kind == 2) = false := by rw [hx]; rfl
  have b3 : (t.kind == 3) = false := by rw [hx]; rfl
  have b4 : (t.kind == 4) = false := by rw [hx]; rfl
  have b5 : (t.kind == 5) = true := by rw [hx]; rfl
  by_cases l20 : n <= 20
  ·have l20i : ((n : Nat) : Int) <= 20 := by omega
   by_cases qn : q = n
   ·have qni : (((q : Nat) : Int) == ((n : Nat) : Int)) = true := by simp; omega
    rcases hid_or (risingB smallB t.names) with rs | rs
    ·skip
     have R : Hid (formT t = false) := hZ (by
      rw [HF.out];unfold formW
      simp [hx, rs.out])
     clear HF;clear hx qn;as_aux_lemma =>
     rw [R.out];clear R;go_enter Tryz.func142, Tryz.ntmps142
     go_wp2_with fail
     go_quiet (fail)
     go_wp2_with fail
     refine (rising_small An cn _ t.names _ HQ.out hzn (HNM.out.below (below_drewN (below_new (Below.refl _ _) _) _))).mono ?_; rintro e w0 ⟨rfl, rfl⟩; rw [rs.out]
     go_wp2_with fail
     go_ret;exact ⟨rfl, below_drewN (below_new (Below.refl _ _) _) _⟩
    ·skip
     rcases hid_or (noMore t) with um | um
     ·skip
      have R : Hid (formT t = false) := hZ (by
       rw [HF.out];unfold formW
       simp [hx, um.out])
      clear HF;clear hx qn;as_aux_lemma =>
      rw [R.out];clear R;go_enter Tryz.func142, Tryz.ntmps142
      go_wp2_with fail
      go_quiet (fail)
      go_wp2_with fail
      refine (rising_small An cn _ t.names _ HQ.out hzn (HNM.out.below (below_drewN (below_new (Below.refl _ _) _) _))).mono ?_; rintro e w0 ⟨rfl, rfl⟩; rw [rs.out]
      go_wp2_with fail
      refine (unnamed_any t _ _ (HV.out.below (below_drewN (below_new (Below.refl _ _) _) _))).mono ?_; rintro e w1 ⟨rfl, hb1⟩; rw [um.out]
      go_wp2_with fail
      go_ret;exact ⟨rfl, (below_drewN (below_new (Below.refl _ _) _) _).trans (hb1.mono (by simp))⟩
     ·skip
      have R : Hid (formT t = true) := hZ (by
       rw [HF.out];unfold formW
       simp [hx, l20, qn, rs.out, um.out])
      clear HF;clear hx qn;as_aux_lemma =>
      rw [R.out];clear R;go_enter Tryz.func142, Tryz.ntmps142
      go_wp2_with fail
      go_quiet (fail)
      go_wp2_with fail
      refine (rising_small An cn _ t.names _ HQ.out hzn (HNM.out.below (below_drewN (below_new (Below.refl _ _) _) _))).mono ?_; rintro e w0 ⟨rfl, rfl⟩; rw [rs.out]
      go_wp2_with fail
      refine (unnamed_any t _ _ (HV.out.below (below_drewN (below_new (Below.refl _ _) _) _))).mono ?_; rintro e w1 ⟨rfl, hb1⟩; rw [um.out]
      go_wp2_with fail
      go_ret;exact ⟨rfl, (below_drewN (below_new (Below.refl _ _) _) _).trans (hb1.mono (by simp))⟩
   ·have qni : (((q : Nat) : Int) == ((n : Nat) : Int)) = false := by simp; omega
    have R : Hid (formT t = false) := hZ (by
     rw [HF.out];unfold formW
     simp [hx, qn])
    clear HF;clear hx qn;as_aux_lemma =>
    rw [R.out];clear R;go_enter Tryz.func142, Tryz.ntmps142
    go_wp2_with fail
    go_quiet (fail)
    go_wp2_with fail
    go_ret;exact ⟨rfl, below_drewN (below_new (Below.refl _ _) _) _⟩
  ·have l20i : ¬ (((n : Nat) : Int) <= 20) := by omega
   have R : Hid (formT t = false) := hZ (by
    rw [HF.out];unfold formW
    simp [hx, l20])
   clear HF;clear hx;as_aux_lemma =>
   rw [R.out];clear R;go_enter Tryz.func142, Tryz.ntmps142
   go_wp2_with fail
   go_quiet (fail)
   go_wp2_with fail
   go_ret;exact ⟨rfl, below_drewN (below_new (Below.refl _ _) _) _⟩
 have c5 : ¬ t.kind = 5 := hx
 have d5 : (t.kind == 5) = false := by simpa using hx
 clear hx
 by_cases hx : t.kind = 6
 ·skip
  have b1 : (t.kind == 1) = false := by rw [hx]; rfl
  have b2 : (t.kind == 2) = false := by rw [hx]; rfl
  have b3 : (t.kind == 3) = false := by rw [hx]; rfl
  have b4 : (t.kind == 4) = false := by rw [hx]; rfl
  have b5 : (t.kind == 5) = false := by rw [hx]; rfl
  have b6 : (t.kind == 6) = true := by rw [hx]; rfl
  by_cases l1 : 1 <= n
  ·have l1i : (1 : Int) <= ((n : Nat) : Int) := by omega
   by_cases l20 : n <= 20
   ·have l20i : ((n : Nat) : Int) <= 20 := by omega
    by_cases qn : q = n
    ·have qni : (((q : Nat) : Int) == ((n : Nat) : Int)) = true := by simp; omega
     rcases hid_or (risingB greatB t.names) with rs | rs
     ·skip
      have R : Hid (formT t = false) := hZ (by
       rw [HF.out];unfold formW
       simp [hx, rs.out])
      clear HF;clear hx qn;as_aux_lemma =>
      rw [R.out];clear R;go_enter Tryz.func142, Tryz.ntmps142
      go_wp2_with fail
      go_quiet (fail)
      go_wp2_with fail
      refine (rising_great An cn _ t.names _ HQ.out hzn (HNM.out.below (below_drewN (below_new (Below.refl _ _) _) _))).mono ?_; rintro e w0 ⟨rfl, rfl⟩; rw [rs.out]
      go_wp2_with fail
      go_ret;exact ⟨rfl, below_drewN (below_new (Below.refl _ _) _) _⟩
     ·skip
      rcases hid_or (noMore t) with um | um
      ·skip
       have R : Hid (formT t = false) := hZ (by
        rw [HF.out];unfold formW
        simp [hx, um.out])
       clear HF;clear hx qn;as_aux_lemma =>
       rw [R.out];clear R;go_enter Tryz.func142, Tryz.ntmps142
       go_wp2_with fail
       go_quiet (fail)
       go_wp2_with fail
       refine (rising_great An cn _ t.names _ HQ.out hzn (HNM.out.below (below_drewN (below_new (Below.refl _ _) _) _))).mono ?_; rintro e w0 ⟨rfl, rfl⟩; rw [rs.out]
       go_wp2_with fail
       refine (unnamed_any t _ _ (HV.out.below (below_drewN (below_new (Below.refl _ _) _) _))).mono ?_; rintro e w1 ⟨rfl, hb1⟩; rw [um.out]
       go_wp2_with fail
       go_ret;exact ⟨rfl, (below_drewN (below_new (Below.refl _ _) _) _).trans (hb1.mono (by simp))⟩
      ·skip
       have R : Hid (formT t = true) := hZ (by
        rw [HF.out];unfold formW
        simp [hx, l1, l20, qn, rs.out, um.out])
       clear HF;clear hx qn;as_aux_lemma =>
       rw [R.out];clear R;go_enter Tryz.func142, Tryz.ntmps142
       go_wp2_with fail
       go_quiet (fail)
       go_wp2_with fail
       refine (rising_great An cn _ t.names _ HQ.out hzn (HNM.out.below (below_drewN (below_new (Below.refl _ _) _) _))).mono ?_; rintro e w0 ⟨rfl, rfl⟩; rw [rs.out]
       go_wp2_with fail
       refine (unnamed_any t _ _ (HV.out.below (below_drewN (below_new (Below.refl _ _) _) _))).mono ?_; rintro e w1 ⟨rfl, hb1⟩; rw [um.out]
       go_wp2_with fail
       go_ret;exact ⟨rfl, (below_drewN (below_new (Below.refl _ _) _) _).trans (hb1.mono (by simp))⟩
    ·have qni : (((q : Nat) : Int) == ((n : Nat) : Int)) = false := by simp; omega
     have R : Hid (formT t = false) := hZ (by
      rw [HF.out];unfold formW
      simp [hx, qn])
     clear HF;clear hx qn;as_aux_lemma =>
     rw [R.out];clear R;go_enter Tryz.func142, Tryz.ntmps142
     go_wp2_with fail
     go_quiet (fail)
     go_wp2_with fail
     go_ret;exact ⟨rfl, below_drewN (below_new (Below.refl _ _) _) _⟩
   ·have l20i : ¬ (((n : Nat) : Int) <= 20) := by omega
    have R : Hid (formT t = false) := hZ (by
     rw [HF.out];unfold formW
     simp [hx, l20])
    clear HF;clear hx;as_aux_lemma =>
    rw [R.out];clear R;go_enter Tryz.func142, Tryz.ntmps142
    go_wp2_with fail
    go_quiet (fail)
    go_wp2_with fail
    go_ret;exact ⟨rfl, below_drewN (below_new (Below.refl _ _) _) _⟩
  ·have l1i : ¬ ((1 : Int) <= ((n : Nat) : Int)) := by omega
   have R : Hid (formT t = false) := hZ (by
    rw [HF.out];unfold formW
    simp [hx, l1])
   clear HF;clear hx;as_aux_lemma =>
   rw [R.out];clear R;go_enter Tryz.func142, Tryz.ntmps142
   go_wp2_with fail
   go_quiet (fail)
   go_wp2_with fail
   go_ret;exact ⟨rfl, below_drewN (below_new (Below.refl _ _) _) _⟩
 have c6 : ¬ t.kind = 6 := hx
 have d6 : (t.kind == 6) = false := by simpa using hx
 clear hx
 by_cases hx : t.kind = 7
 ·skip
  have b1 : (t.kind == 1) = false := by rw [hx]; rfl
  have b2 : (t.kind == 2) = false := by rw [hx]; rfl
  have b3 : (t.kind == 3) = false := by rw [hx]; rfl
  have b4 : (t.kind == 4) = false := by rw [hx]; rfl
  have b5 : (t.kind == 5) = false := by rw [hx]; rfl
  have b6 : (t.kind == 6) = false := by rw [hx]; rfl
  have b7 : (t.kind == 7) = true := by rw [hx]; rfl
  by_cases l1 : 1 <= n
  ·have l1i : (1 : Int) <= ((n : Nat) : Int) := by omega
   by_cases l20 : n <= 20
   ·have l20i : ((n : Nat) : Int) <= 20 := by omega
    by_cases q0 : q = 0
    ·have q0i : (((q : Nat) : Int) == 0) = true := by simp; omega
     rcases hid_or (noMore t) with um | um
     ·skip
      have R : Hid (formT t = false) := hZ (by
       rw [HF.out];unfold formW
       simp [hx, um.out])
      clear HF;clear hx q0;as_aux_lemma =>
      rw [R.out];clear R;go_enter Tryz.func142, Tryz.ntmps142
      go_wp2_with fail
      go_quiet (fail)
      go_wp2_with fail
      refine (unnamed_any t _ _ (HV.out.below (below_drewN (below_new (Below.refl _ _) _) _))).mono ?_; rintro e w0 ⟨rfl, hb0⟩; rw [um.out]
      go_wp2_with fail
      go_ret;exact ⟨rfl, (below_drewN (below_new (Below.refl _ _) _) _).trans (hb0.mono (by simp))⟩
     ·skip
      have R : Hid (formT t = true) := hZ (by
       rw [HF.out];unfold formW
       simp [hx, l1, l20, q0, um.out])
      clear HF;clear hx q0;as_aux_lemma =>
      rw [R.out];clear R;go_enter Tryz.func142, Tryz.ntmps142
      go_wp2_with fail
      go_quiet (fail)
      go_wp2_with fail
      refine (unnamed_any t _ _ (HV.out.below (below_drewN (below_new (Below.refl _ _) _) _))).mono ?_; rintro e w0 ⟨rfl, hb0⟩; rw [um.out]
      go_wp2_with fail
      go_ret;exact ⟨rfl, (below_drewN (below_new (Below.refl _ _) _) _).trans (hb0.mono (by simp))⟩
    ·have q0i : (((q : Nat) : Int) == 0) = false := by simp; omega
     have R : Hid (formT t = false) := hZ (by
      rw [HF.out];unfold formW
      simp [hx, q0])
     clear HF;clear hx q0;as_aux_lemma =>
     rw [R.out];clear R;go_enter Tryz.func142, Tryz.ntmps142
     go_wp2_with fail
     go_quiet (fail)
     go_wp2_with fail
     go_ret;exact ⟨rfl, below_drewN (below_new (Below.refl _ _) _) _⟩
   ·have l20i : ¬ (((n : Nat) : Int) <= 20) := by omega
    have R : Hid (formT t = false) := hZ (by
     rw [HF.out];unfold formW
     simp [hx, l20])
    clear HF;clear hx;as_aux_lemma =>
    rw [R.out];clear R;go_enter Tryz.func142, Tryz.ntmps142
    go_wp2_with fail
    go_quiet (fail)
    go_wp2_with fail
    go_ret;exact ⟨rfl, below_drewN (below_new (Below.refl _ _) _) _⟩
  ·have l1i : ¬ ((1 : Int) <= ((n : Nat) : Int)) := by omega
   have R : Hid (formT t = false) := hZ (by
    rw [HF.out];unfold formW
    simp [hx, l1])
   clear HF;clear hx;as_aux_lemma =>
   rw [R.out];clear R;go_enter Tryz.func142, Tryz.ntmps142
   go_wp2_with fail
   go_quiet (fail)
   go_wp2_with fail
   go_ret;exact ⟨rfl, below_drewN (below_new (Below.refl _ _) _) _⟩
 have c7 : ¬ t.kind = 7 := hx
 have d7 : (t.kind == 7) = false := by simpa using hx
 clear hx
 by_cases hx : t.kind = 8
 ·skip
  have b1 : (t.kind == 1) = false := by rw [hx]; rfl
  have b2 : (t.kind == 2) = false := by rw [hx]; rfl
  have b3 : (t.kind == 3) = false := by rw [hx]; rfl
  have b4 : (t.kind == 4) = false := by rw [hx]; rfl
  have b5 : (t.kind == 5) = false := by rw [hx]; rfl
  have b6 : (t.kind == 6) = false := by rw [hx]; rfl
  have b7 : (t.kind == 7) = false := by rw [hx]; rfl
  have b8 : (t.kind == 8) = true := by rw [hx]; rfl
  by_cases n0 : n = 0
  ·have n0i : (((n : Nat) : Int) == 0) = true := by simp; omega
   by_cases q0 : q = 0
   ·have q0i : (((q : Nat) : Int) == 0) = true := by simp; omega
    rcases hid_or (localOk t) with lo | lo
    ·skip
     have R : Hid (formT t = false) := hZ (by
      rw [HF.out];unfold formW
      simp [hx, lo.out])
     clear HF;clear hx n0 q0;as_aux_lemma =>
     rw [R.out];clear R;go_enter Tryz.func142, Tryz.ntmps142
     go_wp2_with fail
     go_quiet (fail)
     go_wp2_with fail
     refine (mayLocal_any t _ _ (HV.out.below (below_drewN (below_new (Below.refl _ _) _) _))).mono ?_; rintro e w0 ⟨rfl, hb0⟩; rw [lo.out]
     go_wp2_with fail
     go_ret;exact ⟨rfl, (below_drewN (below_new (Below.refl _ _) _) _).trans (hb0.mono (by simp))⟩
    ·skip
     have R : Hid (formT t = true) := hZ (by
      rw [HF.out];unfold formW
      simp [hx, n0, q0, lo.out])
     clear HF;clear hx n0 q0;as_aux_lemma =>
     rw [R.out];clear R;go_enter Tryz.func142, Tryz.ntmps142
     go_wp2_with fail
     go_quiet (fail)
     go_wp2_with fail
     refine (mayLocal_any t _ _ (HV.out.below (below_drewN (below_new (Below.refl _ _) _) _))).mono ?_; rintro e w0 ⟨rfl, hb0⟩; rw [lo.out]
     go_wp2_with fail
     go_ret;exact ⟨rfl, (below_drewN (below_new (Below.refl _ _) _) _).trans (hb0.mono (by simp))⟩
   ·have q0i : (((q : Nat) : Int) == 0) = false := by simp; omega
    have R : Hid (formT t = false) := hZ (by
     rw [HF.out];unfold formW
     simp [hx, q0])
    clear HF;clear hx n0 q0;as_aux_lemma =>
    rw [R.out];clear R;go_enter Tryz.func142, Tryz.ntmps142
    go_wp2_with fail
    go_quiet (fail)
    go_wp2_with fail
    go_ret;exact ⟨rfl, below_drewN (below_new (Below.refl _ _) _) _⟩
  ·have n0i : (((n : Nat) : Int) == 0) = false := by simp; omega
   have R : Hid (formT t = false) := hZ (by
    rw [HF.out];unfold formW
    simp [hx, n0])
   clear HF;clear hx n0;as_aux_lemma =>
   rw [R.out];clear R;go_enter Tryz.func142, Tryz.ntmps142
   go_wp2_with fail
   go_quiet (fail)
   go_wp2_with fail
   go_ret;exact ⟨rfl, below_drewN (below_new (Below.refl _ _) _) _⟩
 have c8 : ¬ t.kind = 8 := hx
 have d8 : (t.kind == 8) = false := by simpa using hx
 clear hx
 by_cases hx : t.kind = 9
 ·skip
  have b1 : (t.kind == 1) = false := by rw [hx]; rfl
  have b2 : (t.kind == 2) = false := by rw [hx]; rfl
  have b3 : (t.kind == 3) = false := by rw [hx]; rfl
  have b4 : (t.kind == 4) = false := by rw [hx]; rfl
  have b5 : (t.kind == 5) = false := by rw [hx]; rfl
  have b6 : (t.kind == 6) = false := by rw [hx]; rfl
  have b7 : (t.kind == 7) = false := by rw [hx]; rfl
  have b8 : (t.kind == 8) = false := by rw [hx]; rfl
  have b9 : (t.kind == 9) = true := by rw [hx]; rfl
  by_cases n0 : n = 0
  ·have n0i : (((n : Nat) : Int) == 0) = true := by simp; omega
   by_cases q0 : q = 0
   ·have q0i : (((q : Nat) : Int) == 0) = true := by simp; omega
    rcases hid_or (openOk t) with lo | lo
    ·skip
     have R : Hid (formT t = false) := hZ (by
      rw [HF.out];unfold formW
      simp [hx, lo.out])
     clear HF;clear hx n0 q0;as_aux_lemma =>
     rw [R.out];clear R;go_enter Tryz.func142, Tryz.ntmps142
     go_wp2_with fail
     go_quiet (fail)
     go_wp2_with fail
     refine (mayOpen_any t _ _ (HV.out.below (below_drewN (below_new (Below.refl _ _) _) _))).mono ?_; rintro e w0 ⟨rfl, hb0⟩; rw [lo.out]
     go_wp2_with fail
     go_ret;exact ⟨rfl, (below_drewN (below_new (Below.refl _ _) _) _).trans (hb0.mono (by simp))⟩
    ·skip
     have R : Hid (formT t = true) := hZ (by
      rw [HF.out];unfold formW
      simp [hx, n0, q0, lo.out])
     clear HF;clear hx n0 q0;as_aux_lemma =>
     rw [R.out];clear R;go_enter Tryz.func142, Tryz.ntmps142
     go_wp2_with fail
     go_quiet (fail)
     go_wp2_with fail
     refine (mayOpen_any t _ _ (HV.out.below (below_drewN (below_new (Below.refl _ _) _) _))).mono ?_; rintro e w0 ⟨rfl, hb0⟩; rw [lo.out]
     go_wp2_with fail
     go_ret;exact ⟨rfl, (below_drewN (below_new (Below.refl _ _) _) _).trans (hb0.mono (by simp))⟩
   ·have q0i : (((q : Nat) : Int) == 0) = false := by simp; omega
    have R : Hid (formT t = false) := hZ (by
     rw [HF.out];unfold formW
     simp [hx, q0])
    clear HF;clear hx n0 q0;as_aux_lemma =>
    rw [R.out];clear R;go_enter Tryz.func142, Tryz.ntmps142
    go_wp2_with fail
    go_quiet (fail)
    go_wp2_with fail
    go_ret;exact ⟨rfl, below_drewN (below_new (Below.refl _ _) _) _⟩
  ·have n0i : (((n : Nat) : Int) == 0) = false := by simp; omega
   have R : Hid (formT t = false) := hZ (by
    rw [HF.out];unfold formW
    simp [hx, n0])
   clear HF;clear hx n0;as_aux_lemma =>
   rw [R.out];clear R;go_enter Tryz.func142, Tryz.ntmps142
   go_wp2_with fail
   go_quiet (fail)
   go_wp2_with fail
   go_ret;exact ⟨rfl, below_drewN (below_new (Below.refl _ _) _) _⟩
 have c9 : ¬ t.kind = 9 := hx
 have d9 : (t.kind == 9) = false := by simpa using hx
 clear hx
 have R : Hid (formT t = false) := hZ (by
  rw [HF.out];unfold formW
  simp [c1, c2, c3, c4, c5, c6, c7, c8, c9])
 clear HF
 as_aux_lemma =>
 rw [R.out]
 clear R
 go_enter Tryz.func142, Tryz.ntmps142
 go_wp2_with fail
 go_quiet (fail)
 go_wp2_with fail
 go_ret
 exact ⟨rfl, below_drewN (below_new (Below.refl _ _) _) _⟩
def Cnt (B : Nat) (c : Int) (w : World) : Prop := w.heap[B]? = some (.cells #[.int .i64 c] 3 (0, 0))
theorem Cnt.lt {B : Nat} {c : Int} {w : World} (h : Cnt B c w) : B < w.heap.size := (Array.getElem?_eq_some_iff.1 h).1
theorem Cnt.cell {B : Nat} {c : Int} {w : World} (h : Cnt B c w) : w.cell? ⟨B, 0, none⟩ = some (.int .i64 c) := cZ h 0
theorem Cnt.frozen {B : Nat} {c : Int} {w : World} (h : Cnt B c w) : w.frozen? ⟨B, 0, none⟩ = false := Lib.frozen_of_heap h 0
theorem Cnt.alloc {B : Nat} {c : Int} {w : World} (h : Cnt B c w) (o : Obj) : Cnt B c (w.alloc o) := (Lib.alloc_old w o B h.lt).trans h
theorem Cnt.put {B : Nat} {c : Int} {w : World} (h : Cnt B c w) (d : Int) : Cnt B d (w.setCell ⟨B, 0, none⟩ (.int .i64 d)) := one_setCell h
theorem Cnt.below {B : Nat} {c : Int} {w w' : World} (h : Cnt B c w) (hb : Below w.heap.size w w') : Cnt B c w' := (hb.block B h.lt).trans h
theorem count_any (N : Nat) : ∀ (t : Ty), many t <= N -> ∀ (d c : Int), 0 <= d -> d <= 33 -> 0 <= c -> c <= 500 -> ∀ (B : Nat) (v : Value) (W w : World), TyV W v t -> Below W.heap.size W w -> W.heap.size <= B -> Cnt B c w ->
  Calls Tryz.prog 112 #[v, .int .i64 d, .pointer (some ⟨B, 0, none⟩)] w fun e w' => e = .returned (.bool (countT t d c).1) /\ Cnt B (countT t d c).2 w' /\ Below B w w' := by
 induction N with
 | zero => intro t h; have := many_pos t; omega
 | succ N ih =>
  intro t hN d c hd0 hd hc0 hc B v W w hv hW hWB hC;have HV := hZ hv;obtain ⟨l, rfl, hT⟩ := hv;obtain ⟨An, cn, As, cs, rfl, -, -, -, hzn, hz, -, hS⟩ := hT.parts;have HS := hZ hS;clear hT hS;have HE := hZ (countT_eq t d c);generalize hn : t.subs.length = n at hz HV
  have HN := hZ hn;clear hn;have hBl := hC.lt;obtain ⟨w2, hw2⟩ : ∃ w2, w2 = (w.setCell ⟨B, 0, none⟩ (.int .i64 (c + 1))).alloc (.cells #[.int .i64 t.kind, .string t.pkg, .int .i64 t.major, .string t.mod, .string t.name, .slice An t.names.length cn, .slice As n cs] 50) := ⟨_, rfl⟩;have hss : (w.setCell ⟨B, 0, none⟩ (.int .i64 (c + 1))).heap.size = w.heap.size := by simp
  have HC2 : Hid (Cnt B (c + 1) w2) := hZ (by rw [hw2]; exact (hC.put (c + 1)).alloc _);have HBW : Hid (Below B w w2) := hZ (by rw [hw2]; exact ((Below.refl B w).setCell (p := ⟨B, 0, none⟩) (Nat.le_refl _) _).alloc (by omega) _);have HWW0 := hZ hW;have HWW : Hid (Below W.heap.size W w2) := hZ (hW.trans (HBW.out.mono hWB));have hsz : w.heap.size < w2.heap.size := by rw [hw2]; simp
  have HX : Hid (∀ i v, (#[.int .i64 t.kind, .string t.pkg, .int .i64 t.major, .string t.mod, .string t.name, .slice An t.names.length cn, .slice As n cs] : Array Value)[i]? = some v -> w2.cell? ⟨w.heap.size, i, none⟩ = some v) := hZ (fun i v hv => by
   rw [cZ (cs := #[.int .i64 t.kind, .string t.pkg, .int .i64 t.major, .string t.mod, .string t.name, .slice An t.names.length cn, .slice As n cs]) (T := 50) (fr := (0, 0))]
   ·exact hv
   ·rw [hw2, <- hss]
    exact heap_alloc_new _ _)
  have c0 := hC.cell;have f0 := hC.frozen;have HW2 := hZ hw2;clear hW hC hw2 hss;go_enter Tryz.func112, Tryz.ntmps112
  go_upto_region 2 with fail
  rw [<- HW2.out];clear c0 f0 HW2;have c2 := HC2.out.cell;have x0 := HX.out 0 _ rfl;have x1 := HX.out 1 _ rfl;have x2 := HX.out 2 _ rfl;have x3 := HX.out 3 _ rfl;have x4 := HX.out 4 _ rfl;have x5 := HX.out 5 _ rfl;have x6 := HX.out 6 _ rfl;by_cases g1 : 500 < c + 1
  ·have R : Hid (countT t d c = (false, c + 1)) := hZ (by rw [HE.out, if_pos (.inl g1)])
   go_wp2_with fail
   go_ret;exact ⟨ret_bool (by rw [R.out]), by rw [R.out]; exact HC2.out, HBW.out⟩
  by_cases g2 : 32 < d
  ·have R : Hid (countT t d c = (false, c + 1)) := hZ (by rw [HE.out, if_pos (.inr (.inl g2))])
   go_wp2_with fail
   go_ret;exact ⟨ret_bool (by rw [R.out]), by rw [R.out]; exact HC2.out, HBW.out⟩
  rcases hid_or (formT t) with hf | hf
  ·have R : Hid (countT t d c = (false, c + 1)) := hZ (by rw [HE.out, if_pos (.inr (.inr hf.out))])
   go_wp2_with fail
   refine (formed_any t _ _ (HV.out.below HWW.out)).mono ?_; rintro e w3 ⟨rfl, hb3⟩; rw [hf.out]
   go_wp2_with fail
   go_ret;exact ⟨ret_bool (by rw [R.out]), by rw [R.out]; exact HC2.out.below hb3, HBW.out.trans (hb3.mono (by omega))⟩
  have R : Hid (countT t d c = countL t.subs (d + 1) (c + 1)) := hZ (by
   rw [HE.out, if_neg];rintro (x | x | x)
   ·exact g1 x
   ·exact g2 x
   ·rw [hf.out] at x; cases x)
  go_wp2_with fail
  refine (formed_any t _ _ (HV.out.below HWW.out)).mono ?_; rintro e w3 ⟨rfl, hb3⟩; rw [hf.out]
  have y6 : w3.cell? ⟨w.heap.size, 6, none⟩ = some (.slice As n cs) := (hb3.cell (p := ⟨w.heap.size, 6, none⟩) hsz).trans x6;have HC3 := hZ (HC2.out.below hb3);have HB3 := hZ (HBW.out.trans (hb3.mono (by omega)));have hd1 : d <= 32 := by omega
  have hc1 : c + 1 <= 500 := by omega
  clear x0 x1 x2 x3 x4 x5 x6 c2 hb3 HX HC2 HBW g1 g2 HE hsz;go_wp2_with fail
  go_loopw [30] (fun i wr => ∃ (k : Nat) (ck : Int), k <= n /\ i = .int .i64 k /\ 0 <= ck /\ ck <= 500 /\ Hid (countT t d c = countL (t.subs.drop k) (d + 1) ck) /\ Hid (Cnt B ck wr) /\ Hid (Below B w wr)) (fun i _ => n - (intOf i).toNat)
  case atStart => exact ⟨0, c + 1, by omega, rfl, by omega, by omega, R, HC3, HB3⟩
  case round =>
   obtain ⟨k, ck, hk, rfl, hk0, hk5, HK, HCK, HBK⟩ := hrel;obtain ⟨wo, rfl⟩ : ∃ wo : World, wo = wr := ⟨_, rfl⟩;have HWK : Hid (Below W.heap.size W wo) := hZ (HWW0.out.trans (HBK.out.mono hWB));by_cases hlt : k < n
   ·obtain ⟨s, hs⟩ : ∃ s, t.subs[k]? = some s := ⟨_, List.getElem?_eq_getElem (by rw [HN.out]; exact hlt)⟩
    obtain ⟨g, o, v0, v1, v2, v3, v4, v5, v6, rfl, hg, e0, e1, e2, e3, e4, e5, e6, hs7⟩ := HS.out k s hs;obtain ⟨Am, cm, At, ct, rfl, rfl, rfl, rfl, rfl, rfl, rfl⟩ := hs7.seven;have tr : ∀ q v, W.cell? ⟨g, q, none⟩ = some v -> wo.cell? ⟨g, q, none⟩ = some v := fun q v hv => (HWK.out.cell (p := ⟨g, _, none⟩) hg).trans hv
    have h0 := tr _ _ e0;have h1 := tr _ _ e1;have h2 := tr _ _ e2;have h3 := tr _ _ e3;have h4 := tr _ _ e4;have h5 := tr _ _ e5;have h6 := tr _ _ e6;have hgo : g < wo.heap.size := Nat.lt_of_lt_of_le hg HWK.out.size;clear e0 e1 e2 e3 e4 e5 e6 tr hg;have hsm := sub_many hs;have HKS := hZ (countL_at hs (d + 1) ck);have HBs := hZ (countT_is s (d + 1) ck hk5);have IH := hZ (fun w' (hw' : Below W.heap.size W w') (hc' : Cnt B ck w') => ih s (by omega) (d + 1) ck (by omega) (by omega) hk0 hk5 B (.agg #[.int .i64 s.kind, .string s.pkg, .int .i64 s.major, .string s.mod, .string s.name, .slice Am s.names.length cm, .slice At s.subs.length ct]) W w' ⟨_, rfl, hs7⟩ hw' hWB hc');clear hs7 hs hsm;have bds := HBs.out;by_cases hg1 : (countT s (d + 1) ck).1 = true
    ·have R2 : Hid (countT t d c = countL (t.subs.drop (k + 1)) (d + 1) (countT s (d + 1) ck).2) := hZ (by rw [HK.out, HKS.out, if_pos hg1])
     have q2 : (countT s (d + 1) ck).2 <= 500 := by rw [bds.2.1 hg1]; exact (bds.1.1 hg1).2.1
     have q1 : 0 <= (countT s (d + 1) ck).2 := by have := bds.2.2.1; omega
     have HG := hZ hg1;clear bds hg1;go_wp2_with fail
     refine (IH.out _ (HWK.out.alloc HWK.out.size _) (HCK.out.alloc _)).mono ?_; rintro e w5 ⟨rfl, hc5, hb5⟩; rw [HG.out]
     have HB5 : Hid (Below B w w5) := hZ ((HBK.out.alloc (by have := HBK.out.size; omega) _).trans hb5);have HC5 := hZ hc5;clear h0 h1 h2 h3 h4 h5 h6 hc5 hb5 HBs IH;go_wp2_with fail
     go_roundw
     case rel => exact ⟨k + 1, (countT s (d + 1) ck).2, by omega, by go_num, q1, q2, R2, HC5, HB5⟩
     case measure => simp [intOf]; omega
    ·have R2 : Hid (countT t d c = (false, (countT s (d + 1) ck).2)) := hZ (by rw [HK.out, HKS.out, if_neg hg1])
     have HG : Hid ((countT s (d + 1) ck).1 = false) := hZ (by simpa using hg1);clear bds hg1;go_wp2_with fail
     refine (IH.out _ (HWK.out.alloc HWK.out.size _) (HCK.out.alloc _)).mono ?_; rintro e w5 ⟨rfl, hc5, hb5⟩; rw [HG.out]
     have HB5 : Hid (Below B w w5) := hZ ((HBK.out.alloc (by have := HBK.out.size; omega) _).trans hb5);have HC5 := hZ hc5;clear h0 h1 h2 h3 h4 h5 h6 hc5 hb5 HBs IH;go_wp2_with fail
     go_ret;exact ⟨ret_bool (by rw [R2.out]), by rw [R2.out]; exact HC5.out, HB5.out⟩
   ·have R2 : Hid (countT t d c = (true, ck)) := hZ (by
     rw [HK.out, List.drop_eq_nil_of_le (by rw [HN.out]; omega)]; rfl)
    go_wp2_with fail
    go_ret;exact ⟨ret_bool (by rw [R2.out]), by rw [R2.out]; exact HCK.out, HBK.out⟩
theorem size_any (t : Ty) (v : Value) (w : World) (hv : TyV w v t) :
  Calls Tryz.prog 75 #[v] w fun e w' => e = .returned (.int .i64 (sizeT t : Nat)) /\ Below w.heap.size w w' := by
 have HV := hZ hv
 obtain ⟨l, rfl, hT⟩ := hv
 obtain ⟨An, cn, As, cs, rfl, -, -, -, hzn, hz, -, hS⟩ := hT.parts
 clear hT hS
 have HM := hZ (may_iff t)
 have HI := hZ (countT_is t 1 0 (by omega))
 obtain ⟨wb, hwb⟩ : ∃ wb, wb = w.alloc (.cells #[.int .i64 t.kind, .string t.pkg, .int .i64 t.major, .string t.mod, .string t.name, .slice An t.names.length cn, .slice As t.subs.length cs] 50) := ⟨_, rfl⟩
 have hbs : wb.heap.size = w.heap.size + 1 := by rw [hwb]; simp
 have HBB : Hid (Below w.heap.size w wb) := hZ (by rw [hwb]; exact below_new (Below.refl _ _) _)
 have HC : Hid (Cnt (w.heap.size + 1) 0 (wb.alloc (.cells #[.int .i64 0] 3))) := hZ (by rw [<- hbs]; exact heap_alloc_new wb _)
 have hle : wb.heap.size <= w.heap.size + 1 := by omega
 have HWB := hZ hwb
 rcases hid_or (countT t 1 0).1 with hg | hg
 ·have R : Hid (sizeT t = 0) := hZ (by unfold sizeT; rw [if_neg]; rw [HM.out, hg.out]; simp)
  rw [R.out];go_enter Tryz.func75, Tryz.ntmps75
  go_wp2_with fail
  rw [<- HWB.out];refine (count_any _ t (Nat.le_refl _) 1 0 (by omega) (by omega) (by omega) (by omega) (w.heap.size + 1) _ wb _ (HV.out.below HBB.out) (below_new (Below.refl _ _) _) hle HC.out).mono ?_; rintro e w5 ⟨rfl, hc5, hb5⟩; rw [hg.out]
  have HB5 : Hid (Below w.heap.size w w5) := hZ ((below_new HBB.out _).trans (hb5.mono (by omega)));clear hb5 hc5;go_wp2_with fail
  go_ret;exact ⟨rfl, HB5.out⟩
 ·have R : Hid ((sizeT t : Int) = (countT t 1 0).2) := hZ (by
   unfold sizeT; rw [if_pos (HM.out.2 hg.out), HI.out.2.1 hg.out]; omega)
  rw [R.out];go_enter Tryz.func75, Tryz.ntmps75
  go_wp2_with fail
  rw [<- HWB.out];refine (count_any _ t (Nat.le_refl _) 1 0 (by omega) (by omega) (by omega) (by omega) (w.heap.size + 1) _ wb _ (HV.out.below HBB.out) (below_new (Below.refl _ _) _) hle HC.out).mono ?_; rintro e w5 ⟨rfl, hc5, hb5⟩; rw [hg.out]
  have HB5 : Hid (Below w.heap.size w w5) := hZ ((below_new HBB.out _).trans (hb5.mono (by omega)));have c5 := hc5.cell;clear hb5 hc5;go_wp2_with fail
  go_ret;exact ⟨rfl, HB5.out⟩
theorem mayK_any (t : Ty) (v : Value) (w : World) (hv : TyV w v t) :
  Calls Tryz.prog 45 #[v] w fun e w' => e = .returned (.bool (mayT t)) /\ Below w.heap.size w w' := by
 have HV := hZ hv
 obtain ⟨l, rfl, hT⟩ := hv
 obtain ⟨An, cn, As, cs, rfl, -, -, -, hzn, hz, -, hS⟩ := hT.parts
 clear hT hS
 have HP := hZ (size_pos t)
 go_enter Tryz.func45, Tryz.ntmps45
 go_wp2_with fail
 refine (size_any t _ _ (HV.out.below (below_new (Below.refl _ _) _))).mono ?_; rintro e w2 ⟨rfl, hb2⟩
 go_wp2_with fail
 go_ret
 exact ⟨ret_bool HP.out.symm, (below_new (Below.refl _ _) _).trans (hb2.mono (by simp))⟩
end Go.Proofs.YtddlmigofilejaaGreat
namespace Go.Proofs.YtddlmigofilejaaGreat
open Go.RowKit
open Go.Sort
open M
theorem z46 : (⟨#[46]⟩ : ByteArray).size = 1 := rfl
end Go.Proofs.YtddlmigofilejaaGreat
