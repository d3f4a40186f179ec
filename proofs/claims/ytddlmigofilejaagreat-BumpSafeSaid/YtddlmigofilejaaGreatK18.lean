/-
  Several texts in one.
-/
import Derived.Test.YtddlmigofilejaaGreatK17
open List (getElem_toArray getElem_cons_succ getElem_cons_zero set_cons_zero set_cons_succ setIfInBounds_toArray)
set_option maxRecDepth 100000
set_option maxHeartbeats 16000000
namespace Go.Proofs.YtddlmigofilejaaGreat
open Go Go.RowKit Go.Shelf
open Go.Sort Go.Maps
open M
def EpIs (m : Mo) (pkg : ByteArray) (major : Int) (env : List If) (t : Ty) (c : Int) (u : Ty) : Prop :=
 (c = 1 /\ u = zTy /\ ¬ (MayN m pkg major env /\ mayT t = true)) \/ (MayN m pkg major env /\ mayT t = true /\
  ((c = 4 /\ u = zTy /\ (locT t).all (knoN m) = false) \/ ((locT t).all (knoN m) = true /\
   ((c = 9 /\ u = zTy /\ ((allK m t m.decs.length).any fun s => lacksN m env (locT s)) = true) \/ (((allK m t m.decs.length).any fun s => lacksN m env (locT s)) = false /\
    ∃ h x, ExpH (meanT m pkg major env) h t x /\ ((c = 3 /\ u = zTy /\ (500 < many x \/ 32 < deep x)) \/ (c = 0 /\ u = x /\ many x <= 500 /\ deep x <= 32)))))))
def errV (c : Int) : Value := if c = 0 then .nilIface else .iface 33 (.int .i64 c)
def EpOut (m : Mo) (pkg : ByteArray) (major : Int) (env : List If) (t : Ty) (w : World) (e : Ending) (w' : World) : Prop :=
 ∃ (c : Int) (u : Ty) (l : List Value), EpIs m pkg major env t c u /\ e = .returned (.tuple #[.agg l.toArray, errV c]) /\ TyAt (strike (· < w.heap.size) w') l u /\ Below w.heap.size w w'
theorem mayN_parts {m : Mo} {pkg : ByteArray} {major : Int} {env : List If} (h : MayN m pkg major env) : mayM m = true /\ Ok7 m /\ smallB pkg.data.toList = true /\ 1 <= major /\ major <= 999999999 /\ env.length <= 100 := by
 obtain ⟨⟨h1, h2⟩, h3, h4⟩ := h
 unfold mayT at h3
 simp only [Bool.and_eq_true] at h3
 have h5 := h3.1.1
 rw [allOk_eq, Bool.and_eq_true] at h5
 have h6 := h5.1
 unfold ownOk shapeOk openT at h6
 simp [Ty.kind, Ty.subs, Ty.names, Ty.pkg, Ty.mod, Ty.name, Ty.major] at h6
 exact ⟨h1, h2, h6.2.1.1.1.1, of_decide_eq_true h6.2.1.2, of_decide_eq_true h6.2.2, h4⟩
theorem may_ok {t : Ty} (h : mayT t = true) : allOk t = true := by
 unfold mayT at h
 simp only [Bool.and_eq_true] at h
 exact h.1.1
theorem allK_mem {m : Mo} {t s : Ty} {n : Nat} (h : s ∈ allK m t n) : s = t \/ ∃ k d, m.decs[k]? = some d /\ d.kind = 3 /\ Reach (entries m) (saidT m t) k /\ s = d.typ := by
 unfold allK at h
 rcases List.mem_cons.1 h with h | h
 ·exact .inl h
 ·rw [List.mem_filterMap] at h
  obtain ⟨k, -, h⟩ := h;split at h
  ·rename_i hr
   obtain ⟨d, hd, h⟩ := Option.bind_eq_some_iff.1 h;split at h
   ·rename_i h3
    exact .inr ⟨k, d, hd, h3, reachB_iff.1 hr, (Option.some.inj h).symm⟩
   ·cases h
  ·cases h
theorem allK_has {m : Mo} {t : Ty} {k : Nat} {d : De} (hd : m.decs[k]? = some d) (h3 : d.kind = 3) (hr : Reach (entries m) (saidT m t) k) : d.typ ∈ allK m t m.decs.length := by
 unfold allK
 refine List.mem_cons_of_mem _ (List.mem_filterMap.2 ⟨k, List.mem_range.2 (dec_lt hd), ?_⟩)
 rw [if_pos (reachB_iff.2 hr), hd]
 simp [h3]
theorem alias_may {m : Mo} (hm : mayM m = true) {k : Nat} {d : De} (hd : m.decs[k]? = some d) (h3 : d.kind = 3) : mayT d.typ = true := by
 rcases mayD_sorts ((mayM_parts hm).2.2.2 d (List.mem_of_getElem? hd)) with ⟨e, -⟩ | ⟨-, e, -⟩ | ⟨e, -⟩
 ·rcases e with e | e <;> rw [h3] at e <;> cases e
 ·exact e
 ·rw [h3] at e; cases e
theorem any_name {m : Mo} {pkg : ByteArray} {major : Int} {env : List If} (hm : mayM m = true) (ok : Ok7 m) {t : Ty} (ht : mayT t = true) : (allK m t m.decs.length).any (failT (lookM m pkg major env) 4) = !(locT t).all (knoN m) := by
 rw [Bool.eq_iff_iff, List.any_eq_true]
 constructor
 ·rintro ⟨s, hs, h⟩
  rcases allK_mem hs with rfl | ⟨k, d, hd, h3, -, rfl⟩
  ·rw [fail_name hm (may_ok ht)] at h; exact h
  ·have h1 := alias_may hm hd h3
   rw [fail_name hm (may_ok h1)] at h;have h2 := ok.whole k d hd;rw [(loc_may m h1).2] at h2;rw [h2] at h; cases h
 ·intro h
  exact ⟨t, List.mem_cons_self, by rw [fail_name hm (may_ok ht)]; exact h⟩
theorem any_none {m : Mo} {pkg : ByteArray} {major : Int} {env : List If} (hm : mayM m = true) (ok : Ok7 m) {t : Ty} (ht : mayT t = true) (hk : (locT t).all (knoN m) = true) : (allK m t m.decs.length).any (failT (lookM m pkg major env) 9) = (allK m t m.decs.length).any fun s => lacksN m env (locT s) := by
 have key : ∀ s ∈ allK m t m.decs.length, failT (lookM m pkg major env) 9 s = lacksN m env (locT s) := fun s hs => by
  rcases allK_mem hs with rfl | ⟨k, d, hd, h3, -, rfl⟩
  ·exact fail_none hm (may_ok ht) hk
  ·have h1 := alias_may hm hd h3
   have h2 := ok.whole k d hd;rw [(loc_may m h1).2] at h2;exact fail_none hm (may_ok h1) h2
 rw [Bool.eq_iff_iff, List.any_eq_true, List.any_eq_true]
 exact ⟨fun ⟨s, hs, h⟩ => ⟨s, hs, by rw [<- key s hs]; exact h⟩, fun ⟨s, hs, h⟩ => ⟨s, hs, by rw [key s hs]; exact h⟩⟩
theorem lacks_no {m : Mo} {env : List If} {L : List Ty} (h : lacksN m env L = false) : ∀ x ∈ L, x.mod.size ≠ 0 -> (thereT m env x).isSome = true := fun x hx hz => by
 unfold lacksN at h
 rw [List.any_eq_false] at h
 have := h x hx
 rw [decide_eq_false hz] at this
 cases e : thereT m env x with
 | none => rw [e] at this; simp at this
 | some s => rfl
theorem good_all {m : Mo} {env : List If} {t : Ty} (ht : mayT t = true) (hk : (locT t).all (knoN m) = true) (hl : ((allK m t m.decs.length).any fun s => lacksN m env (locT s)) = false) : Good m env t := by
 rw [List.any_eq_false] at hl
 have hl' : ∀ s ∈ allK m t m.decs.length, lacksN m env (locT s) = false := fun s hs => by simpa using hl s hs
 exact ⟨may_ok ht, fun x hx => (List.all_eq_true.1 hk) x hx, lacks_no (hl' t List.mem_cons_self), fun k d hr hd h3 => lacks_no (hl' _ (allK_has hd h3 hr))⟩
theorem fit_ok : ∀ (N : Nat) (t : Ty), many t <= N -> allOk t = true -> fitT t := by
 intro N
 induction N with
 | zero => intro t h; have := many_pos t; omega
 | succ N ih =>
  intro t hN ha;rw [allOk_eq, Bool.and_eq_true] at ha;have ho := ha.1;unfold ownOk at ho
  simp only [Bool.and_eq_true, decide_eq_true_eq] at ho;have hs : fitL t.subs := (fitL_mem _).2 fun s hs => ih s (by have := manyL_mem _ _ hs; have := manyL_eq t; omega) ((allOkL_mem _).1 ha.2 s hs)
  have he : ∀ s : ByteArray, emptyB s = true -> s.size <= 281474976710656 := fun s h => by
   unfold emptyB at h
   have := of_decide_eq_true h
   omega
  have hsm : ∀ s : ByteArray, smallB s.data.toList = true -> s.size <= 281474976710656 := fun s h => by have := small_size h; omega
  have hgr : ∀ s : ByteArray, greatB s.data.toList = true -> s.size <= 281474976710656 := fun s h => by have := great_size h; omega
  have hno : noMore t = true -> t.pkg.size <= 281474976710656 /\ t.mod.size <= 281474976710656 /\ t.name.size <= 281474976710656 := fun h => by
   unfold noMore at h
   simp only [Bool.and_eq_true] at h;exact ⟨he _ h.1.1.1, he _ h.1.2, he _ h.2⟩
  have hnm : ∀ k : Int, (k = 5 \/ k = 6) -> t.kind = k -> ∀ s ∈ t.names, s.size <= 281474976710656 := fun k hk ek s hm => by
   obtain ⟨i, hi⟩ := List.getElem?_of_mem hm;have hi' := (List.getElem?_eq_some_iff.1 hi).1
   have hb := (namesOk_iff _ _).1 ho.1.2 i hi';unfold badName at hb
   have en : nameAt t.names i = s := by unfold nameAt; simp [List.getD_eq_getElem?_getD, hi]
   rw [en, ek] at hb;simp only [Bool.or_eq_false_iff] at hb;rcases hk with rfl | rfl
   ·have := hb.1.1
    simp at this;exact hsm s this
   ·have := hb.1.2
    simp at this;exact hgr s this
  have key : (t.pkg.size <= 281474976710656 /\ t.mod.size <= 281474976710656 /\ t.name.size <= 281474976710656) /\ t.names.length <= 200 /\ ∀ s ∈ t.names, s.size <= 281474976710656 := by
   have hsh := ho.2;have hno0 : t.names.length = 0 -> t.names.length <= 200 /\ ∀ s ∈ t.names, s.size <= 281474976710656 := fun h => ⟨by omega, fun s hs => by rw [List.length_eq_zero_iff.1 h] at hs; cases hs⟩
   unfold shapeOk at hsh
   split at hsh
   ·simp only [Bool.and_eq_true, decide_eq_true_eq] at hsh
    exact ⟨hno hsh.1.1, hno0 hsh.2⟩
   ·split at hsh
    ·simp only [Bool.and_eq_true, decide_eq_true_eq] at hsh
     exact ⟨hno hsh.1.1, hno0 hsh.2⟩
    ·split at hsh
     ·rename_i hk
      simp only [Bool.and_eq_true, decide_eq_true_eq] at hsh;exact ⟨hno hsh.1, by omega, hnm 5 (.inl rfl) hk⟩
     ·split at hsh
      ·rename_i hk
       simp only [Bool.and_eq_true, decide_eq_true_eq] at hsh;exact ⟨hno hsh.1.1, by omega, hnm 6 (.inr rfl) hk⟩
      ·split at hsh
       ·simp only [Bool.and_eq_true, decide_eq_true_eq] at hsh
        exact ⟨hno hsh.1.1, hno0 hsh.2⟩
       ·split at hsh
        ·simp only [Bool.and_eq_true, Bool.or_eq_true, decide_eq_true_eq] at hsh
         exact ⟨⟨he _ hsh.1.1.1.2, hsh.2.elim (hsm _) (he _), hgr _ hsh.1.2⟩, hno0 hsh.1.1.1.1.2⟩
        ·split at hsh
         ·simp only [Bool.and_eq_true, decide_eq_true_eq] at hsh
          exact ⟨⟨hsm _ hsh.1.1.1.1.2, hsm _ hsh.1.1.1.2, hgr _ hsh.1.1.2⟩, hno0 hsh.1.1.1.1.1.2⟩
         ·cases hsh
  cases t with
  | mk k p m d n ns ss =>
   unfold fitT
   exact ⟨⟨key.1.1, key.1.2.1, key.1.2.2, key.2.1, key.2.2⟩, hs⟩
theorem expand8_any (m : Mo) (pkg : ByteArray) (major : Int) (env : List If) (Ai : Option Addr) (ci : Nat) (Ad : Option Addr) (cd : Nat) (Ae : Option Addr) (ce : Nat) (t : Ty) (lt : List Value) (w : World) (hMo : MoAt w [.string m.name, .slice Ai m.imps.length ci, .slice Ad m.decs.length cd] m) (hcap : CapsAt [.string m.name, .slice Ai m.imps.length ci, .slice Ad m.decs.length cd] m)
  (hpk : pkg.size <= 9223372036854775807) (hE : RowIn ifR w Ae env) (hel : env.length <= 9223372036854775807) (hT : TyAt w lt t) (hM : ∀ d ∈ m.decs, many d.typ <= 9000) :
  Calls Tryz.prog 90 #[.agg #[.string m.name, .slice Ai m.imps.length ci, .slice Ad m.decs.length cd], .string pkg, .int .i64 major, .slice Ae env.length ce, .agg lt.toArray] w (EpOut m pkg major env t w) := by
 have HT := hZ hT
 obtain ⟨Bn, cB, Bs, dB, rfl, -⟩ := hT.parts
 obtain ⟨kb, hkb⟩ : ∃ kb, kb = w.heap.size + 1 + 1 + 1 := ⟨_, rfl⟩
 have HKB := hZ hkb
 have HNS : Hid (NsAt w [.string m.name, .slice Ai m.imps.length ci, .slice Ad m.decs.length cd, .string pkg, .int .i64 major, .slice Ae env.length ce, .map (some kb)] m pkg major env kb) := hZ (by
  obtain ⟨A1, c1, A2, c2, e, z1, z2, z3, hi, hd⟩ := hMo;simp at e;obtain ⟨⟨e1, e2⟩, e3, e4⟩ := e;subst e1 e2 e3 e4;exact ⟨_, _, _, _, _, _, rfl, z1, z2, z3, hpk, hel, hi, hd, hE⟩)
 obtain ⟨W3, hW3⟩ : ∃ W3, W3 = ((w.alloc (.cells #[.string m.name, .slice Ai m.imps.length ci, .slice Ad m.decs.length cd] 126)).alloc (.cells #[.int .i64 t.kind, .string t.pkg, .int .i64 t.major, .string t.mod, .string t.name, .slice Bn t.names.length cB, .slice Bs t.subs.length dB] 50)).alloc (.cells #[.int .i64 0, .string ⟨#[]⟩, .int .i64 0, .string ⟨#[]⟩, .string ⟨#[]⟩, .slice none 0 0, .slice none 0 0] 50) := ⟨_, rfl⟩
 obtain ⟨W2, hW2, B2, O0, O1, hl2⟩ := two_boxes w #[.string m.name, .slice Ai m.imps.length ci, .slice Ad m.decs.length cd] #[.int .i64 t.kind, .string t.pkg, .int .i64 t.major, .string t.mod, .string t.name, .slice Bn t.names.length cB, .slice Bs t.subs.length dB] 126 50
 have s2 : W2.heap.size = w.heap.size + 1 + 1 := by rw [hW2]; simp
 rw [<- hW2] at hW3
 have B3 : Below W2.heap.size W2 W3 := by rw [hW3]; exact below_new (Below.refl _ _) _
 have s3 : W3.heap.size = w.heap.size + 1 + 1 + 1 := by rw [hW3]; simp [s2]
 have O2 : W3.heap[w.heap.size + 1 + 1]? = some (.cells #[.int .i64 0, .string ⟨#[]⟩, .int .i64 0, .string ⟨#[]⟩, .string ⟨#[]⟩, .slice none 0 0, .slice none 0 0] 50 (0, 0)) := by rw [hW3, <- s2]; exact heap_alloc_new W2 _
 obtain ⟨W4, hW4⟩ : ∃ W4, W4 = W3.alloc (.map #[] 0) := ⟨_, rfl⟩
 have B4 : Below W3.heap.size W3 W4 := by rw [hW4]; exact below_new (Below.refl _ _) _
 have s4 : W4.heap.size = w.heap.size + 1 + 1 + 1 + 1 := by rw [hW4]; simp [s3]
 have P4 : PlMap w W4 kb m pkg major env := by rw [hW4, hkb, <- s3]; exact PlMap.made w W3 m pkg major env
 obtain ⟨W5, hW5⟩ : ∃ W5, W5 = W4.alloc (.cells #[.string m.name, .slice Ai m.imps.length ci, .slice Ad m.decs.length cd, .string pkg, .int .i64 major, .slice Ae env.length ce, .map (some kb)] 157) := ⟨_, rfl⟩
 have B5 : Below W4.heap.size W4 W5 := by rw [hW5]; exact below_new (Below.refl _ _) _
 have s5 : W5.heap.size = w.heap.size + 1 + 1 + 1 + 1 + 1 := by rw [hW5]; simp [s4]
 have N5 : W5.heap[w.heap.size + 1 + 1 + 1 + 1]? = some (.cells #[.string m.name, .slice Ai m.imps.length ci, .slice Ad m.decs.length cd, .string pkg, .int .i64 major, .slice Ae env.length ce, .map (some kb)] 157 (0, 0)) := by rw [hW5, <- s4]; exact heap_alloc_new W4 _
 have HB5 : Hid (Below w.heap.size w W5) := hZ (below_over (below_over (below_over B2 B3) B4) B5)
 have HP5 : Hid (PlMap w W5 kb m pkg major env) := hZ (P4.kept (B5.block _ (by omega)))
 have T5 : W5.heap[w.heap.size + 1]? = some (.cells #[.int .i64 t.kind, .string t.pkg, .int .i64 t.major, .string t.mod, .string t.name, .slice Bn t.names.length cB, .slice Bs t.subs.length dB] 50 (0, 0)) := (B5.block _ (by omega)).trans ((B4.block _ (by omega)).trans ((B3.block _ (by omega)).trans O1))
 have Z5 : W5.heap[w.heap.size + 1 + 1]? = some (.cells #[.int .i64 0, .string ⟨#[]⟩, .int .i64 0, .string ⟨#[]⟩, .string ⟨#[]⟩, .slice none 0 0, .slice none 0 0] 50 (0, 0)) := (B5.block _ (by omega)).trans ((B4.block _ (by omega)).trans O2)
 have M3' : W3.heap[w.heap.size]? = some (.cells #[.string m.name, .slice Ai m.imps.length ci, .slice Ad m.decs.length cd] 126 (0, 0)) := (B3.block _ (by omega)).trans O0
 obtain ⟨m0, m1, m2⟩ := cq3 M3'
 simp at m0 m1 m2
 have HN5 := hZ N5
 have HT5 := hZ T5
 have HZ5 := hZ Z5
 have KEEP : Hid (∀ wx, Below W5.heap.size W5 wx \/ W5.grownBy wx (some kb) -> (wx.heap[w.heap.size + 1 + 1 + 1 + 1]? = some (.cells #[.string m.name, .slice Ai m.imps.length ci, .slice Ad m.decs.length cd, .string pkg, .int .i64 major, .slice Ae env.length ce, .map (some kb)] 157 (0, 0)) /\ wx.heap[w.heap.size + 1]? = some (.cells #[.int .i64 t.kind, .string t.pkg, .int .i64 t.major, .string t.mod, .string t.name, .slice Bn t.names.length cB, .slice Bs t.subs.length dB] 50 (0, 0)) /\ wx.heap[w.heap.size + 1 + 1]? = some (.cells #[.int .i64 0, .string ⟨#[]⟩, .int .i64 0, .string ⟨#[]⟩, .string ⟨#[]⟩, .slice none 0 0, .slice none 0 0] 50 (0, 0)) /\ w.heap.size + 1 + 1 + 1 + 1 < wx.heap.size)) := hZ (fun wx h => by
  have hg : W5.grownBy wx (some kb) := h.elim (fun hb => grown_of hb) id;have hz := hg.size;refine ⟨kept_grown N5 (by omega) hg, kept_grown T5 (by omega) hg, kept_grown Z5 (by omega) hg, by omega⟩)
 have MC := hZ (mayN_any m pkg major env kb Ai ci Ad cd Ae ce W5 (HNS.out.below HB5.out) (hMo.below HB5.out) hM hcap)
 have KC := hZ (fun (wx : World) (hb : Below W5.heap.size W5 wx) => mayK_any t (.agg #[.int .i64 t.kind, .string t.pkg, .int .i64 t.major, .string t.mod, .string t.name, .slice Bn t.names.length cB, .slice Bs t.subs.length dB]) wx ⟨_, rfl, HT.out.keep (below_over HB5.out hb)⟩)
 have HMo := hZ hMo
 have HM := hZ hM
 have HW3 := hZ hW3
 have HW2 := hZ hW2
 have HW4 := hZ hW4
 have HW5 := hZ hW5
 have HS5 := hZ s5
 have FAIL : Hid (∀ (c : Int) (wx : World), c ≠ 0 -> EpIs m pkg major env t c zTy -> Below w.heap.size w wx -> EpOut m pkg major env t w (.returned (.tuple #[.agg #[.int .i64 0, .string ⟨#[]⟩, .int .i64 0, .string ⟨#[]⟩, .string ⟨#[]⟩, .slice none 0 0, .slice none 0 0], .iface 33 (.int .i64 c)])) (wx.setRow (w.heap.size + 1 + 1) #[.int .i64 0, .string ⟨#[]⟩, .int .i64 0, .string ⟨#[]⟩, .string ⟨#[]⟩, .slice none 0 0, .slice none 0 0])) := hZ (fun c wx hc he hb => by
  exact ⟨c, zTy, [.int .i64 0, .string ⟨#[]⟩, .int .i64 0, .string ⟨#[]⟩, .string ⟨#[]⟩, .slice none 0 0, .slice none 0 0], he, by unfold errV; rw [if_neg hc], zero_at _, setRow_below hb (by omega) _⟩)
 clear hT hMo hcap hE hM hW2 hW3 hW4 hW5 B2 B3 B4 B5 O0 O1 O2 P4 N5 T5 Z5 M3' s4 hl2 hkb hpk s5
 go_enter Tryz.func90, Tryz.ntmps90
 go_upto_region 1 with fail
 rw [<- HW2.out, <- HW3.out]
 have hmm := @run_makeMap Tryz.prog
 go_upto_region 2 with fail
 clear hmm
 have hk1' : kb + 1 = w.heap.size + 1 + 1 + 1 + 1 := by rw [HKB.out]
 simp only [s2, s3, <- HKB.out, <- HW4.out, <- HW5.out]
 simp only [hk1']
 clear hk1'
 clear m0 m1 m2
 obtain ⟨N5, T5, Z5, hl5⟩ := KEEP.out W5 (.inl (Below.refl _ _))
 obtain ⟨n0, n1, n2, n3, n4, n5, n6⟩ := cq7 N5
 simp at n0 n1 n2 n3 n4 n5 n6
 go_wp2_with fail
 refine MC.out.mono ?_; rintro e w6 ⟨b, rfl, hb, hb6⟩
 have HB6 := hZ hb6
 have HBB := hZ hb
 clear hb6 hb MC n0 n1 n2 n3 n4 n5 n6 N5 T5 Z5 hl5
 obtain ⟨N6, T6, Z6, hl6⟩ := KEEP.out w6 (.inl HB6.out)
 cases b with
 | false =>
  have FIN := hZ (FAIL.out 1 w6 (by decide) (.inl ⟨rfl, rfl, fun h => by have := HBB.out.2 h.1; cases this⟩) (below_over HB5.out HB6.out));have HZ6 := hZ Z6;clear N6 T6;go_wp2_with (first | (((with_reducible refine wpList_putRow 50 (w.heap.size + 1 + 1) #[.int .i64 0, .string ⟨#[]⟩, .int .i64 0, .string ⟨#[]⟩, .string ⟨#[]⟩, .slice none 0 0, .slice none 0 0] _ _ Z6 ?_ ?_ ?_ ?_ ?_ ?_); exact tySize; rfl; exact tyOne; iterate 2 (focus (first | (go_simp; done) | rfl)))))
  exact ret_agg (fn := Tryz.f90) (vs := [.int .i64 0, .string ⟨#[]⟩, .int .i64 0, .string ⟨#[]⟩, .string ⟨#[]⟩, .slice none 0 0, .slice none 0 0]) (b := w.heap.size + 1 + 1) (x := .iface 33 (.int .i64 1)) rfl rfl rfl Tryz.underlying50 (by kernel_rfl) (cell7 (setRow_heap w6 (w.heap.size + 1 + 1) _ _ _ _ HZ6.out)) rfl FIN.out
 | true =>
 have HMN : Hid (MayN m pkg major env) := hZ (HBB.out.1 rfl)
 have CK := hZ (KC.out w6 HB6.out)
 obtain ⟨q, hq⟩ : ∃ q, q = mayT t := ⟨_, rfl⟩
 rw [<- hq] at CK
 have HQ := hZ hq
 obtain ⟨y0, y1, y2, y3, y4, y5, y6⟩ := cq7 T6
 simp at y0 y1 y2 y3 y4 y5 y6
 clear hq N6 T6 Z6 hl6
 go_wp2_with fail
 refine CK.out.mono ?_; rintro e w7 ⟨rfl, hb7⟩
 have HB7 := hZ (below_over HB6.out hb7)
 clear hb7 CK y0 y1 y2 y3 y4 y5 y6
 obtain ⟨N7, T7, Z7, hl7⟩ := KEEP.out w7 (.inl HB7.out)
 cases q with
 | false =>
  have FIN := hZ (FAIL.out 1 w7 (by decide) (.inl ⟨rfl, rfl, fun h => by rw [<- HQ.out] at h; cases h.2⟩) (below_over HB5.out HB7.out));have HZ7 := hZ Z7;clear N7 T7;go_wp2_with (first | (((with_reducible refine wpList_putRow 50 (w.heap.size + 1 + 1) #[.int .i64 0, .string ⟨#[]⟩, .int .i64 0, .string ⟨#[]⟩, .string ⟨#[]⟩, .slice none 0 0, .slice none 0 0] _ _ Z7 ?_ ?_ ?_ ?_ ?_ ?_); exact tySize; rfl; exact tyOne; iterate 2 (focus (first | (go_simp; done) | rfl)))))
  exact ret_agg (fn := Tryz.f90) (vs := [.int .i64 0, .string ⟨#[]⟩, .int .i64 0, .string ⟨#[]⟩, .string ⟨#[]⟩, .slice none 0 0, .slice none 0 0]) (b := w.heap.size + 1 + 1) (x := .iface 33 (.int .i64 1)) rfl rfl rfl Tryz.underlying50 (by kernel_rfl) (cell7 (setRow_heap w7 (w.heap.size + 1 + 1) _ _ _ _ HZ7.out)) rfl FIN.out
 | true =>
 have HMT : Hid (mayT t = true) := hZ HQ.out.symm
 obtain ⟨xs, hxs⟩ : ∃ xs, xs = allK m t m.decs.length := ⟨_, rfl⟩
 have HXS := hZ hxs
 have AC := hZ (allN_any m pkg major env kb Ai ci Ad cd Ae ce t _ w w7 HMo.out (below_over HB5.out HB7.out) HT.out (mayN_parts HMN.out).1 (mayN_parts HMN.out).2.1 HMT.out HM.out)
 rw [<- hxs] at AC
 have hxl : xs.length <= 1000000 := by
  have h1 := allK_len m t m.decs.length;have h2 := (mayM_parts (mayN_parts HMN.out).1).2.1;rw [hxs]; omega
 obtain ⟨n0, n1, n2, n3, n4, n5, n6⟩ := cq7 N7
 obtain ⟨y0, y1, y2, y3, y4, y5, y6⟩ := cq7 T7
 simp at n0 n1 n2 n3 n4 n5 n6 y0 y1 y2 y3 y4 y5 y6
 clear hxs N7 T7 Z7
 go_wp2_with fail
 refine AC.out.mono ?_; rintro e w8 ⟨A8, c8, rfl, hO8, hb8⟩
 have HB8 := hZ (below_over HB7.out hb8)
 have SK8 : Hid (SubsK w w8 kb A8 xs) := hZ (hO8.subs (by have := HKB.out; omega))
 clear hO8 hb8 AC n0 n1 n2 n3 n4 n5 n6 y0 y1 y2 y3 y4 y5 y6 hl7
 have HW58 : Hid (Below w.heap.size w w8) := hZ (below_over HB5.out HB8.out)
 have HP8 : Hid (PlMap w w8 kb m pkg major env) := hZ (HP5.out.kept (HB8.out.block _ (by have := HKB.out; have := HS5.out; omega)))
 have hkw : w.heap.size <= kb := by have := HKB.out; omega
 have FL := hZ (fun c wx s (l : List Value) hT hb hm => fails_any w kb m pkg major env c [.string m.name, .slice Ai m.imps.length ci, .slice Ad m.decs.length cd, .string pkg, .int .i64 major, .slice Ae env.length ce, .map (some kb)] HNS.out hkw (many s) s (Nat.le_refl _) l wx hT hb hm)
 go_upto_region 6 with fail
 go_loopw [39] (fun s39 wr => ∃ k : Nat, k <= 2 /\ s39 = .int .i64 k /\ Hid (PlMap w wr kb m pkg major env /\ w8.grownBy wr (some kb)) /\ Hid (1 <= k -> xs.any (failT (lookM m pkg major env) 4) = false) /\ Hid (2 <= k -> xs.any (failT (lookM m pkg major env) 9) = false)) (fun s39 _ => 2 - (intOf s39).toNat)
 case atStart => exact ⟨0, by omega, rfl, hZ ⟨HP8.out, grown_of (Below.refl _ _)⟩, hZ (fun h => by omega), hZ (fun h => by omega)⟩
 case round =>
  obtain ⟨k, hk, rfl, HI, H4, H9⟩ := hrel;obtain ⟨wo, rfl⟩ : ∃ wo : World, wo = wr := ⟨_, rfl⟩;have G5 : Hid (W5.grownBy wo (some kb)) := hZ (grown_over (grown_of HB8.out) HI.out.2);obtain ⟨No, To, Zo, hlo⟩ := KEEP.out wo (.inr G5.out);have HBo : Hid (Below w.heap.size w wo) := hZ (below_grow HW58.out HI.out.2 hkw);by_cases hk0 : k = 0
  ·subst hk0
   obtain ⟨wb, hwb⟩ : ∃ wb, wb = wo.alloc (.cells #[.int .i64 4] 33) := ⟨_, rfl⟩;have Bb : Below wo.heap.size wo wb := by rw [hwb]; exact below_new (Below.refl _ _) _
   have Cb : wb.heap[wo.heap.size]? = some (.cells #[.int .i64 4] 33 (0, 0)) := by rw [hwb]; exact heap_alloc_new wo _
   have hkl : kb < wo.heap.size := by have := HKB.out; omega
   have HKL := hZ hkl;have Nb : wb.heap[w.heap.size + 1 + 1 + 1 + 1]? = some (.cells #[.string m.name, .slice Ai m.imps.length ci, .slice Ad m.decs.length cd, .string pkg, .int .i64 major, .slice Ae env.length ce, .map (some kb)] 157 (0, 0)) := (Bb.block _ hlo).trans No;have HWb := hZ hwb;have HCb := hZ Cb;have HNb := hZ Nb;have HZo := hZ Zo;have HBb := hZ Bb
   have CC := hZ (contains_exp2 w kb m pkg major env (failT (lookM m pkg major env) 4) (w.heap.size + 1 + 1 + 1 + 1) wo.heap.size A8 c8 xs.length xs wb rfl (by omega) ((SK8.out.grown HI.out.2).grown (grown_of Bb)) hkw (below_over HBo.out Bb) (HI.out.1.kept (Bb.block _ hkl))
    (fun s _ l wx hT hb hm hg => one_expand w kb m pkg major env 4 _ _ _ Ai ci Ad cd Ae ce s l wx (kept_grown HNb.out (by have := HKB.out; omega) hg) (kept_grown HCb.out (by omega) hg) hT hb hm (fun wy hby hmy => FL.out 4 wy s l hT hby hmy)))
   obtain ⟨r, hr⟩ : ∃ r, r = xs.any (failT (lookM m pkg major env) 4) := ⟨_, rfl⟩;rw [<- hr] at CC;have HR := hZ hr;have hix : ∀ wz : World, (Instr.index 159 (.agg #[.int .i64 4, .int .i64 9]) (.int .i64 0)).run Tryz.prog wz = .ok (.int .i64 4) wz := fun _ => by kernel_rfl
   clear hwb Bb Cb Nb No To Zo hr hkl hk;go_upto_region 8 with fail
   clear hix;rw [<- HWb.out];clear HWb;go_wp2_with fail
   refine CC.out.mono ?_; rintro e w9 ⟨rfl, hm9, hg9⟩
   have hs9 := hg9.size;have hsb := HBb.out.size;have hkl := HKL.out;have Z9 : w9.heap[w.heap.size + 1 + 1]? = some (.cells #[.int .i64 0, .string ⟨#[]⟩, .int .i64 0, .string ⟨#[]⟩, .string ⟨#[]⟩, .slice none 0 0, .slice none 0 0] 50 (0, 0)) := kept_grown ((HBb.out.block _ (by omega)).trans HZo.out) (by have := HKB.out; omega) hg9;have C9 : w9.heap[wo.heap.size]? = some (.cells #[.int .i64 4] 33 (0, 0)) := kept_grown HCb.out (by omega) hg9;have HG9 : Hid (PlMap w w9 kb m pkg major env /\ w8.grownBy w9 (some kb)) := hZ ⟨hm9, grown_over HI.out.2 (grown_over (grown_of HBb.out) hg9)⟩;have HB9 : Hid (Below w.heap.size w w9) := hZ (below_grow HW58.out HG9.out.2 hkw);clear CC hm9 hg9;cases r with
   | true =>
    have FIN := hZ (FAIL.out 4 w9.drew (by decide) ((.inr ⟨HMN.out, HMT.out, .inl ⟨rfl, rfl, by
      have h := HR.out.symm;rw [HXS.out, any_name (mayN_parts HMN.out).1 (mayN_parts HMN.out).2.1 HMT.out] at h;simpa using h⟩⟩)) (below_over HB9.out (Below.drew (Below.refl _ _))))
    have HZ9 := hZ Z9;have HC9 := hZ C9;have c0 : w9.drew.cell? ⟨wo.heap.size, 0, none⟩ = some (.int .i64 4) := by have := cZ C9 0; simpa using this
    clear C9 Z9;go_upto_region 10 with fail
    refine AnyX.start (fun wx => wx.cell? ⟨wo.heap.size, 0, none⟩ = some (.int .i64 4)) (fun _ => false) (by kernel_rfl) ?_;refine AnyX.mv (i := 0) (v := ?_) rfl (fun _ _ _ h => h) (Or.inl ⟨by rfl, ?_⟩) ?_;rotate_left
    ·(intro wS _; go_simp; try with_reducible rfl)
    simp only [getElem_toArray, getElem_cons_succ, getElem_cons_zero];simp only [Act.put, setIfInBounds_toArray, set_cons_zero, set_cons_succ];refine AnyX.tk (i := 1) (v := ?_) rfl (fun _ _ _ h => h) c0 (Or.inl ⟨by rfl, ?_⟩) ?_;rotate_left
    ·(intro wS hS; (try obtain c0 := hS); go_simp; try with_reducible rfl)
    simp only [getElem_toArray, getElem_cons_succ, getElem_cons_zero];simp only [Act.put, setIfInBounds_toArray, set_cons_zero, set_cons_succ];refine AnyX.mv (i := 2) (v := ?_) rfl (fun _ _ _ h => h) (Or.inl ⟨by rfl, ?_⟩) ?_;rotate_left
    ·(intro wS _; go_simp; try with_reducible rfl)
    simp only [getElem_toArray, getElem_cons_succ, getElem_cons_zero];simp only [Act.put, setIfInBounds_toArray, set_cons_zero, set_cons_succ];refine AnyX.go 3 (by kernel_rfl) rfl rfl (fun K hK => ?_);simp only [getElem_toArray, getElem_cons_succ, getElem_cons_zero];refine wp_store_row 50 (.tmp 10) (.tmp 46) rfl (w.heap.size + 1 + 1) #[.int .i64 0, .string ⟨#[]⟩, .int .i64 0, .string ⟨#[]⟩, .string ⟨#[]⟩, .slice none 0 0, .slice none 0 0] rfl rfl _ _ HZ9.out tySize rfl tyOne ?_;refine hK.out _ _ (fun hoff _ => (World.cell?_of_block (w := w9) (a := ⟨wo.heap.size, 0, none⟩) (setRow_other _ _ _ _ (show wo.heap.size ≠ w.heap.size + 1 + 1 by omega))).trans c0) ?_;clear hK;(try simp only [Act.put, setIfInBounds_toArray, set_cons_zero, set_cons_succ]);refine AnyX.mv (i := 4) (v := ?_) rfl (fun _ _ _ h => h) (Or.inl ⟨by rfl, ?_⟩) ?_;rotate_left
    ·(intro wS _; go_simp; try with_reducible rfl)
    simp only [getElem_toArray, getElem_cons_succ, getElem_cons_zero];simp only [Act.put, setIfInBounds_toArray, set_cons_zero, set_cons_succ];refine AnyX.done (by kernel_rfl) ?_ _;go_wp2_with fail
    exact ret_agg (fn := Tryz.f90) (vs := [.int .i64 0, .string ⟨#[]⟩, .int .i64 0, .string ⟨#[]⟩, .string ⟨#[]⟩, .slice none 0 0, .slice none 0 0]) (b := w.heap.size + 1 + 1) (x := .iface 33 (.int .i64 4)) rfl rfl rfl Tryz.underlying50 (by kernel_rfl) (cell7 (setRow_heap w9 (w.heap.size + 1 + 1) _ _ _ _ HZ9.out)) rfl FIN.out
   | false =>
    clear Z9 C9;go_wp2_with fail
    go_roundw
    case rel => exact ⟨1, by omega, by go_num, HG9, hZ (fun _ => HR.out.symm), hZ (fun h => by omega)⟩
    case measure => simp [intOf]
  ·by_cases hk1 : k = 1
   ·subst hk1
    obtain ⟨wb, hwb⟩ : ∃ wb, wb = wo.alloc (.cells #[.int .i64 9] 33) := ⟨_, rfl⟩;have Bb : Below wo.heap.size wo wb := by rw [hwb]; exact below_new (Below.refl _ _) _
    have Cb : wb.heap[wo.heap.size]? = some (.cells #[.int .i64 9] 33 (0, 0)) := by rw [hwb]; exact heap_alloc_new wo _
    have hkl : kb < wo.heap.size := by have := HKB.out; omega
    have HKL := hZ hkl;have Nb : wb.heap[w.heap.size + 1 + 1 + 1 + 1]? = some (.cells #[.string m.name, .slice Ai m.imps.length ci, .slice Ad m.decs.length cd, .string pkg, .int .i64 major, .slice Ae env.length ce, .map (some kb)] 157 (0, 0)) := (Bb.block _ hlo).trans No;have HWb := hZ hwb;have HCb := hZ Cb;have HNb := hZ Nb;have HZo := hZ Zo;have HBb := hZ Bb
    have CC := hZ (contains_exp2 w kb m pkg major env (failT (lookM m pkg major env) 9) (w.heap.size + 1 + 1 + 1 + 1) wo.heap.size A8 c8 xs.length xs wb rfl (by omega) ((SK8.out.grown HI.out.2).grown (grown_of Bb)) hkw (below_over HBo.out Bb) (HI.out.1.kept (Bb.block _ hkl))
     (fun s _ l wx hT hb hm hg => one_expand w kb m pkg major env 9 _ _ _ Ai ci Ad cd Ae ce s l wx (kept_grown HNb.out (by have := HKB.out; omega) hg) (kept_grown HCb.out (by omega) hg) hT hb hm (fun wy hby hmy => FL.out 9 wy s l hT hby hmy)))
    obtain ⟨r, hr⟩ : ∃ r, r = xs.any (failT (lookM m pkg major env) 9) := ⟨_, rfl⟩;rw [<- hr] at CC;have HR := hZ hr;have hix : ∀ wz : World, (Instr.index 159 (.agg #[.int .i64 4, .int .i64 9]) (.int .i64 1)).run Tryz.prog wz = .ok (.int .i64 9) wz := fun _ => by kernel_rfl
    clear hwb Bb Cb Nb No To Zo hr hkl hk;go_upto_region 8 with fail
    clear hix;rw [<- HWb.out];clear HWb;go_wp2_with fail
    refine CC.out.mono ?_; rintro e w9 ⟨rfl, hm9, hg9⟩
    have hs9 := hg9.size;have hsb := HBb.out.size;have hkl := HKL.out;have Z9 : w9.heap[w.heap.size + 1 + 1]? = some (.cells #[.int .i64 0, .string ⟨#[]⟩, .int .i64 0, .string ⟨#[]⟩, .string ⟨#[]⟩, .slice none 0 0, .slice none 0 0] 50 (0, 0)) := kept_grown ((HBb.out.block _ (by omega)).trans HZo.out) (by have := HKB.out; omega) hg9;have C9 : w9.heap[wo.heap.size]? = some (.cells #[.int .i64 9] 33 (0, 0)) := kept_grown HCb.out (by omega) hg9;have HG9 : Hid (PlMap w w9 kb m pkg major env /\ w8.grownBy w9 (some kb)) := hZ ⟨hm9, grown_over HI.out.2 (grown_over (grown_of HBb.out) hg9)⟩;have HB9 : Hid (Below w.heap.size w w9) := hZ (below_grow HW58.out HG9.out.2 hkw);clear CC hm9 hg9;cases r with
    | true =>
     have FIN := hZ (FAIL.out 9 w9.drew (by decide) ((.inr ⟨HMN.out, HMT.out, .inr (by
       have h4 := H4.out (by omega);rw [HXS.out, any_name (mayN_parts HMN.out).1 (mayN_parts HMN.out).2.1 HMT.out] at h4;have hkn : (locT t).all (knoN m) = true := by simpa using h4
       have h := HR.out.symm;rw [HXS.out, any_none (mayN_parts HMN.out).1 (mayN_parts HMN.out).2.1 HMT.out hkn] at h;exact ⟨hkn, .inl ⟨rfl, rfl, h⟩⟩)⟩)) (below_over HB9.out (Below.drew (Below.refl _ _))))
     have HZ9 := hZ Z9;have HC9 := hZ C9;have c0 : w9.drew.cell? ⟨wo.heap.size, 0, none⟩ = some (.int .i64 9) := by have := cZ C9 0; simpa using this
     clear C9 Z9;go_upto_region 10 with fail
     refine AnyX.start (fun wx => wx.cell? ⟨wo.heap.size, 0, none⟩ = some (.int .i64 9)) (fun _ => false) (by kernel_rfl) ?_;refine AnyX.mv (i := 0) (v := ?_) rfl (fun _ _ _ h => h) (Or.inl ⟨by rfl, ?_⟩) ?_;rotate_left
     ·(intro wS _; go_simp; try with_reducible rfl)
     simp only [getElem_toArray, getElem_cons_succ, getElem_cons_zero];simp only [Act.put, setIfInBounds_toArray, set_cons_zero, set_cons_succ];refine AnyX.tk (i := 1) (v := ?_) rfl (fun _ _ _ h => h) c0 (Or.inl ⟨by rfl, ?_⟩) ?_;rotate_left
     ·(intro wS hS; (try obtain c0 := hS); go_simp; try with_reducible rfl)
     simp only [getElem_toArray, getElem_cons_succ, getElem_cons_zero];simp only [Act.put, setIfInBounds_toArray, set_cons_zero, set_cons_succ];refine AnyX.mv (i := 2) (v := ?_) rfl (fun _ _ _ h => h) (Or.inl ⟨by rfl, ?_⟩) ?_;rotate_left
     ·(intro wS _; go_simp; try with_reducible rfl)
     simp only [getElem_toArray, getElem_cons_succ, getElem_cons_zero];simp only [Act.put, setIfInBounds_toArray, set_cons_zero, set_cons_succ];refine AnyX.go 3 (by kernel_rfl) rfl rfl (fun K hK => ?_);simp only [getElem_toArray, getElem_cons_succ, getElem_cons_zero];refine wp_store_row 50 (.tmp 10) (.tmp 46) rfl (w.heap.size + 1 + 1) #[.int .i64 0, .string ⟨#[]⟩, .int .i64 0, .string ⟨#[]⟩, .string ⟨#[]⟩, .slice none 0 0, .slice none 0 0] rfl rfl _ _ HZ9.out tySize rfl tyOne ?_;refine hK.out _ _ (fun hoff _ => (World.cell?_of_block (w := w9) (a := ⟨wo.heap.size, 0, none⟩) (setRow_other _ _ _ _ (show wo.heap.size ≠ w.heap.size + 1 + 1 by omega))).trans c0) ?_;clear hK;(try simp only [Act.put, setIfInBounds_toArray, set_cons_zero, set_cons_succ]);refine AnyX.mv (i := 4) (v := ?_) rfl (fun _ _ _ h => h) (Or.inl ⟨by rfl, ?_⟩) ?_;rotate_left
     ·(intro wS _; go_simp; try with_reducible rfl)
     simp only [getElem_toArray, getElem_cons_succ, getElem_cons_zero];simp only [Act.put, setIfInBounds_toArray, set_cons_zero, set_cons_succ];refine AnyX.done (by kernel_rfl) ?_ _;go_wp2_with fail
     exact ret_agg (fn := Tryz.f90) (vs := [.int .i64 0, .string ⟨#[]⟩, .int .i64 0, .string ⟨#[]⟩, .string ⟨#[]⟩, .slice none 0 0, .slice none 0 0]) (b := w.heap.size + 1 + 1) (x := .iface 33 (.int .i64 9)) rfl rfl rfl Tryz.underlying50 (by kernel_rfl) (cell7 (setRow_heap w9 (w.heap.size + 1 + 1) _ _ _ _ HZ9.out)) rfl FIN.out
    | false =>
     clear Z9 C9;go_wp2_with fail
     go_roundw
     case rel => exact ⟨2, by omega, by go_num, HG9, hZ (fun _ => H4.out (by omega)), hZ (fun _ => HR.out.symm)⟩
     case measure => simp [intOf]
   ·obtain rfl : k = 2 := by omega
    clear hk0 hk1;obtain ⟨ok1, ok2, ok3, ok4, ok5, -⟩ := mayN_parts HMN.out;have h4 := H4.out (by omega);have h9 := H9.out (by omega);rw [HXS.out, any_name ok1 ok2 HMT.out] at h4;have hkn : (locT t).all (knoN m) = true := by simpa using h4
    rw [HXS.out, any_none ok1 ok2 HMT.out hkn] at h9;obtain ⟨hh, u, hu⟩ := exp_some (pkg := pkg) (major := major) ok1 ok2 (reaches m t) (many t) t (Nat.le_refl _) (Nat.le_refl _) (good_all HMT.out hkn h9);have HU := hZ hu;have HOU : Hid (allOk u = true) := hZ (exp_ok ok1 ok3 ok4 ok5 hh t u (may_ok HMT.out) hu);have HKN := hZ hkn;have HL9 := hZ h9;obtain ⟨we, hwe⟩ : ∃ we, we = wo.alloc (.cells #[.string m.name, .slice Ai m.imps.length ci, .slice Ad m.decs.length cd, .string pkg, .int .i64 major, .slice Ae env.length ce, .map (some kb), .int .i64 0, .bool false] 163) := ⟨_, rfl⟩;have Be : Below wo.heap.size wo we := by rw [hwe]; exact below_new (Below.refl _ _) _
    have Ee : we.heap[wo.heap.size]? = some (.cells #[.string m.name, .slice Ai m.imps.length ci, .slice Ad m.decs.length cd, .string pkg, .int .i64 major, .slice Ae env.length ce, .map (some kb), .int .i64 0, .bool false] 163 (0, 0)) := by rw [hwe]; exact heap_alloc_new wo _
    have se : we.heap.size = wo.heap.size + 1 := by rw [hwe]; simp
    have hwz := HBo.out.size;have hkl : kb < wo.heap.size := by have := HKB.out; omega
    have CX := hZ (xp_any w kb wo.heap.size m pkg major env Ai ci Ad cd Ae ce HNS.out hkw hwz (by omega) ok1 ok3 ok4 ok5 hh t u (may_ok HMT.out) hu 0 false 1 _ we (fun _ => by omega) (by omega) (by omega) HT.out (below_over HBo.out Be) (by omega) Ee (HI.out.1.kept (Be.block _ hkl)));have HWe := hZ hwe;have HBe : Hid (Below w.heap.size w we) := hZ (below_over HBo.out Be);have Te := (Be.block _ (by omega)).trans To;have HZe : Hid (we.heap[w.heap.size + 1 + 1]? = some (.cells #[.int .i64 0, .string ⟨#[]⟩, .int .i64 0, .string ⟨#[]⟩, .string ⟨#[]⟩, .slice none 0 0, .slice none 0 0] 50 (0, 0))) := hZ ((Be.block _ (by omega)).trans Zo);obtain ⟨n0, n1, n2, n3, n4, n5, n6⟩ := cq7 No;obtain ⟨y0, y1, y2, y3, y4, y5, y6⟩ := cq7 Te;simp at n0 n1 n2 n3 n4 n5 n6 y0 y1 y2 y3 y4 y5 y6;have HSE := hZ se;clear h4 h9 hkn hu hwe Be Ee No To Zo Te SK8 HP8 se;go_upto_region 13 with fail
    rw [<- HWe.out];clear n0 n1 n2 n3 n4 n5 n6;go_wp2_with fail
    refine CX.out.mono ?_; rintro e w9 ⟨l9, made', lg', rfl, ⟨v, hsh⟩, he9, hp9, hg9, hlg, hty⟩
    obtain ⟨Vn, cV, Vs, dV, rfl⟩ := hsh;have se := HSE.out;have hs9 := hg9.size;have B9 : Hid (Below w.heap.size w w9) := hZ (Gr2.base HBe.out hg9 hkw hwz);have Z9 : w9.heap[w.heap.size + 1 + 1]? = some (.cells #[.int .i64 0, .string ⟨#[]⟩, .int .i64 0, .string ⟨#[]⟩, .string ⟨#[]⟩, .slice none 0 0, .slice none 0 0] 50 (0, 0)) := (hg9.block _ (by omega) (by have := HKB.out; omega) (by omega)).trans HZe.out;obtain ⟨w10, hw10⟩ : ∃ w10, w10 = w9.alloc (.cells #[.int .i64 v.kind, .string v.pkg, .int .i64 v.major, .string v.mod, .string v.name, .slice Vn v.names.length cV, .slice Vs v.subs.length dV] 50) := ⟨_, rfl⟩;have B10 : Below w9.heap.size w9 w10 := by rw [hw10]; exact below_new (Below.refl _ _) _
    have Y10 : w10.heap[w9.heap.size]? = some (.cells #[.int .i64 v.kind, .string v.pkg, .int .i64 v.major, .string v.mod, .string v.name, .slice Vn v.names.length cV, .slice Vs v.subs.length dV] 50 (0, 0)) := by rw [hw10]; exact heap_alloc_new w9 _
    have HY10 := hZ Y10;have E10 : w10.heap[wo.heap.size]? = some (.cells #[.string m.name, .slice Ai m.imps.length ci, .slice Ad m.decs.length cd, .string pkg, .int .i64 major, .slice Ae env.length ce, .map (some kb), .int .i64 made', .bool lg'] 163 (0, 0)) := (B10.block _ (by omega)).trans he9;have Z10 : w10.heap[w.heap.size + 1 + 1]? = some (.cells #[.int .i64 0, .string ⟨#[]⟩, .int .i64 0, .string ⟨#[]⟩, .string ⟨#[]⟩, .slice none 0 0, .slice none 0 0] 50 (0, 0)) := (B10.block _ (by omega)).trans Z9;have HZ10 := hZ Z10;have HB10 : Hid (Below w.heap.size w w10) := hZ (below_over B9.out B10);have HTY : Hid (lg' = false -> TyAt w10 [.int .i64 v.kind, .string v.pkg, .int .i64 v.major, .string v.mod, .string v.name, .slice Vn v.names.length cV, .slice Vs v.subs.length dV] u) := hZ (fun h => ((hty h).2.free).keep B10);have HLG := hZ hlg;have HW10 := hZ hw10;have x8 := cZ E10 8;simp at x8;clear hw10 B10 E10 hp9 hg9 hlg hty he9 CX y0 y1 y2 y3 y4 y5 y6 Z9;go_upto_region 14 with fail
    rw [<- HW10.out];cases lg' with
    | true =>
     have FIN := hZ (FAIL.out 3 w10 (by decide) (.inr ⟨HMN.out, HMT.out, .inr ⟨HKN.out, .inr ⟨HL9.out, hh, u, HU.out, .inl ⟨rfl, rfl, by
      have := HLG.out.symm
      simp only [Bool.or_eq_true, decide_eq_true_eq, Bool.false_or] at this;omega⟩⟩⟩⟩) HB10.out)
     clear Y10;go_wp2_with (first | (((with_reducible refine wpList_putRow 50 (w.heap.size + 1 + 1) #[.int .i64 0, .string ⟨#[]⟩, .int .i64 0, .string ⟨#[]⟩, .string ⟨#[]⟩, .slice none 0 0, .slice none 0 0] _ _ Z10 ?_ ?_ ?_ ?_ ?_ ?_); exact tySize; rfl; exact tyOne; iterate 2 (focus (first | (go_simp; done) | rfl)))))
     exact ret_agg (fn := Tryz.f90) (vs := [.int .i64 0, .string ⟨#[]⟩, .int .i64 0, .string ⟨#[]⟩, .string ⟨#[]⟩, .slice none 0 0, .slice none 0 0]) (b := w.heap.size + 1 + 1) (x := .iface 33 (.int .i64 3)) rfl rfl rfl Tryz.underlying50 (by kernel_rfl) (cell7 (setRow_heap w10 (w.heap.size + 1 + 1) _ _ _ _ HZ10.out)) rfl FIN.out
    | false =>
     have HSM : Hid (many u <= 500 /\ deep u <= 32) := hZ (by
      have := HLG.out.symm
      simp only [Bool.or_eq_false_iff, decide_eq_false_iff_not, Bool.false_or] at this;omega)
     have CF := hZ (fresh_any u (by have := HSM.out.1; omega) (fit_ok _ u (Nat.le_refl _) HOU.out) _ w10 (HTY.out rfl));obtain ⟨y0, y1, y2, y3, y4, y5, y6⟩ := cq7 Y10;simp at y0 y1 y2 y3 y4 y5 y6;clear Y10 Z10;go_wp2_with fail
     refine CF.out.mono ?_; rintro e w11 ⟨l11, rfl, hT11, hb11⟩
     obtain ⟨Dn, dn, Ds, ds, rfl, -⟩ := hT11.parts;have hz10 : w.heap.size + 1 + 1 < w10.heap.size := (Array.getElem?_eq_some_iff.1 HZ10.out).1;have Z11 : w11.heap[w.heap.size + 1 + 1]? = some (.cells #[.int .i64 0, .string ⟨#[]⟩, .int .i64 0, .string ⟨#[]⟩, .string ⟨#[]⟩, .slice none 0 0, .slice none 0 0] 50 (0, 0)) := (hb11.block _ hz10).trans HZ10.out;have HZ11 := hZ Z11
     have FIN : Hid (EpOut m pkg major env t w (.returned (.tuple #[.agg #[.int .i64 u.kind, .string u.pkg, .int .i64 u.major, .string u.mod, .string u.name, .slice Dn u.names.length dn, .slice Ds u.subs.length ds], .nilIface])) (w11.setRow (w.heap.size + 1 + 1) #[.int .i64 u.kind, .string u.pkg, .int .i64 u.major, .string u.mod, .string u.name, .slice Dn u.names.length dn, .slice Ds u.subs.length ds])) := hZ
      ⟨0, u, [.int .i64 u.kind, .string u.pkg, .int .i64 u.major, .string u.mod, .string u.name, .slice Dn u.names.length dn, .slice Ds u.subs.length ds], .inr ⟨HMN.out, HMT.out, .inr ⟨HKN.out, .inr ⟨HL9.out, hh, u, HU.out, .inr ⟨rfl, rfl, HSM.out⟩⟩⟩⟩, rfl, hT11.move (by simp) fun b hb hS => ⟨by omega, setRow_other _ _ _ _ (by omega)⟩, setRow_below (below_over HB10.out hb11) (by omega) _⟩
     clear hT11 hb11 CF y0 y1 y2 y3 y4 y5 y6;go_wp2_with (first | (((with_reducible refine wpList_putRow 50 (w.heap.size + 1 + 1) #[.int .i64 u.kind, .string u.pkg, .int .i64 u.major, .string u.mod, .string u.name, .slice Dn u.names.length dn, .slice Ds u.subs.length ds] _ _ Z11 ?_ ?_ ?_ ?_ ?_ ?_); exact tySize; rfl; exact tyOne; iterate 2 (focus (first | (go_simp; done) | rfl)))))
     exact ret_agg (fn := Tryz.f90) (vs := [.int .i64 u.kind, .string u.pkg, .int .i64 u.major, .string u.mod, .string u.name, .slice Dn u.names.length dn, .slice Ds u.subs.length ds]) (b := w.heap.size + 1 + 1) rfl rfl rfl Tryz.underlying50 (by kernel_rfl) (cell7 (setRow_heap w11 (w.heap.size + 1 + 1) _ _ _ _ HZ11.out)) rfl FIN.out
theorem ep_zero {m : Mo} {pkg : ByteArray} {major : Int} {env : List If} {t u : Ty} (h : EpIs m pkg major env t 0 u) : MayN m pkg major env /\ mayT t = true /\ mayT u = true /\ plainT u = true := by
  rcases h with ⟨h, -, -⟩ | ⟨h1, h2, h⟩
  · cases h
  · rcases h with ⟨h, -, -⟩ | ⟨hk, h⟩
    · cases h
    · rcases h with ⟨h, -, -⟩ | ⟨hl, hh, x, hx, h⟩
      · cases h
      · rcases h with ⟨h, -, -⟩ | ⟨-, rfl, ha, hb⟩
        · cases h
        · obtain ⟨o1, o2, o3, o4, o5, -⟩ := mayN_parts h1
          refine ⟨h1, h2, ?_, exp_is_plain _ _ _ hx⟩;have h3 := exp_ok o1 o3 o4 o5 hh t u (may_ok h2) hx;unfold mayT
          rw [h3, decide_eq_true ha, decide_eq_true hb]; rfl
theorem ep_code {m : Mo} {pkg : ByteArray} {major : Int} {env : List If} {t u : Ty} {c : Int} (h : EpIs m pkg major env t c u) : (c = 0 \/ c = 1 \/ c = 3 \/ c = 4 \/ c = 9) /\ (c ≠ 0 -> u = zTy) := by
  rcases h with ⟨hc, hu, -⟩ | ⟨-, -, h⟩
  · exact ⟨.inr (.inl hc), fun _ => hu⟩
  · rcases h with ⟨hc, hu, -⟩ | ⟨-, h⟩
    · exact ⟨.inr (.inr (.inr (.inl hc))), fun _ => hu⟩
    · rcases h with ⟨hc, hu, -⟩ | ⟨-, hh, x, hx, h⟩
      · exact ⟨.inr (.inr (.inr (.inr hc))), fun _ => hu⟩
      · rcases h with ⟨hc, hu, -⟩ | ⟨hc, hu, -⟩
        · exact ⟨.inr (.inr (.inl hc)), fun _ => hu⟩
        · exact ⟨.inl hc, fun h => absurd hc h⟩
section
variable {P : Program} (w : World)
theorem run_equalIn_iface_int (d : Nat) {ti tn : TypeId} {ms : Array (String × TypeId)} {i : TypeInfo} {k : IntKind} (a b : Int)
    (hi : P.underlying ti = some (.interface ms)) (hn : P.underlying tn = some (.int k)) (hinfo : P.info? tn = some i) (hcomp : i.comparable = true) :
    (Op.equalIn (d + 2) ti (.iface tn (.int k a)) (.iface tn (.int k b))).run P w = .ok (a == b) w := by
  simp [Op.equalIn, run_underlying hi, run_underlying hn, typeInfo, hinfo, hcomp]
theorem run_eql_iface_int {ti tn : TypeId} {ms : Array (String × TypeId)} {i : TypeInfo} {k : IntKind} (a b : Int)
    (hi : P.underlying ti = some (.interface ms)) (hn : P.underlying tn = some (.int k)) (hinfo : P.info? tn = some i) (hcomp : i.comparable = true) :
    (binOp .eql ti (.iface tn (.int k a)) (.iface tn (.int k b))).run P w = .ok (.bool (a == b)) w := by
  simp only [binOp];simp [Op.equal, Op.maxDepth, run_equalIn_iface_int w 9998 a b hi hn hinfo hcomp]
end
end Go.Proofs.YtddlmigofilejaaGreat
namespace Go.Proofs.YtddlmigofilejaaGreat
open Go.RowKit
open M
theorem code_comparable : (Tryz.prog.info? 33).map (·.comparable) = some true := by kernel_rfl
theorem eqErr (a b : Int) (w : World) : (binOp .eql 27 (.iface 33 (.int .i64 a)) (.iface 33 (.int .i64 b))).run Tryz.prog w = .ok (.bool (a == b)) w := by
  obtain ⟨i, hi, hc⟩ := Option.map_eq_some_iff.1 code_comparable;exact run_eql_iface_int w a b Tryz.underlying27 Tryz.underlying33 hi hc
end Go.Proofs.YtddlmigofilejaaGreat
namespace Go.Proofs.YtddlmigofilejaaGreat
open Go.RowKit
open Go.Sort
open M
def fewNm (x : Nm) : Bool := fewB x.typ
def fewI (x : If) : Bool := decide (x.types.length <= 200) && (decide (x.vals.length <= 200) && (x.types.all fewNm && x.vals.all fewNm))
def fewE (env : List If) : Bool := decide (env.length <= 200) && env.all fewI
theorem rfew8_any (A : Option Addr) (c : Nat) (env : List If) (w : World) (hE : RowIn ifR w A env) (hel : env.length <= 9223372036854775807) :
  Calls Tryz.prog 6 #[.slice A env.length c] w fun e w' => e = .returned (.bool (fewE env)) /\ Below w.heap.size w w' := by
 obtain ⟨V, hV⟩ : ∃ V, fewE env = V := ⟨_, rfl⟩
 rw [hV]
 have HV : Hid ((decide (env.length <= 200) && env.all fewI) = V) := hZ hV
 obtain ⟨ne, hne⟩ : ∃ ne, ne = env.length := ⟨_, rfl⟩
 rw [<- hne] at hel HV
 rw [<- hne]
 have HN := hZ hne
 have HE := hZ hE
 clear hV hne hE
 by_cases h2 : 200 < ne
 ·have e1 : (200 : Int) < ne := by omega
  have RV : V = false := by rw [<- HV.out, show decide (ne <= 200) = false by simp; omega]; rfl
  subst RV;go_enter Tryz.func6, Tryz.ntmps6
  go_wp2_with fail
  go_ret;exact ⟨rfl, Below.refl _ _⟩
 have e1 : ¬ (200 : Int) < ne := by omega
 have HV1 : Hid (env.all fewI = V) := hZ (by rw [<- HV.out, decide_eq_true (show ne <= 200 by omega)]; rfl)
 clear HV
 go_enter Tryz.func6, Tryz.ntmps6
 go_wp2_with fail
 clear e1
 go_loopw [3] (fun iv wr => ∃ j : Nat, j <= ne /\ iv = .int .i64 j /\ Hid ((env.take j).all fewI = true) /\ Below w.heap.size w wr) (fun iv _ => ne - (intOf iv).toNat)
 case atStart => exact ⟨0, by omega, rfl, hZ (by simp), Below.refl _ _⟩
 case round =>
  obtain ⟨j, hj, rfl, HQ, hb⟩ := hrel;obtain ⟨wo, rfl⟩ : ∃ wo : World, wo = wr := ⟨_, rfl⟩;have HBo := hZ hb;by_cases hlt : j < ne
  ·obtain ⟨x, hx⟩ : ∃ x, env[j]? = some x := ⟨_, List.getElem?_eq_getElem (by rw [<- HN.out]; exact hlt)⟩
   obtain ⟨g, o, At, ct, Av, cv, rfl, hgo, -, -, -, g3, g4, -, -, -, -, hT, hVL⟩ := (HE.out.below hb).ifc hx;have HX := hZ hx;have HT := hZ hT;have HVL := hZ hVL;obtain ⟨nt, hnt⟩ : ∃ nt, nt = x.types.length := ⟨_, rfl⟩;obtain ⟨nv, hnv⟩ : ∃ nv, nv = x.vals.length := ⟨_, rfl⟩;rw [<- hnt] at g3;rw [<- hnv] at g4;have HL3 := hZ hnt;have HL4 := hZ hnv;have E3 := hZ g3;have E4 := hZ g4;have hj0 : (0 : Int) <= j := by omega
   have hj1 : (j : Int) < ne := by omega
   have OUT : Hid (Below w.heap.size w wo) := hZ hb;clear hx hT hVL hnt hnv hb;by_cases ht : 200 < nt
   ·have q1 : (200 : Int) < nt := by omega
    have RV : V = false := by
     rw [<- HV1.out];refine all_one _ _ _ _ HX.out ?_;unfold fewI; rw [<- HL3.out, decide_eq_false (by omega)]; rfl
    subst RV;go_wp2_with fail
    go_ret;exact ⟨rfl, OUT.out⟩
   have q1 : ¬ (200 : Int) < nt := by omega
   by_cases hv : 200 < nv
   ·have q2 : (200 : Int) < nv := by omega
    have RV : V = false := by
     rw [<- HV1.out];refine all_one _ _ _ _ HX.out ?_;unfold fewI; rw [<- HL4.out, decide_eq_false (show ¬ nv <= 200 by omega)]; simp
    subst RV;go_wp2_with fail
    go_ret;exact ⟨rfl, OUT.out⟩
   have q2 : ¬ (200 : Int) < nv := by omega
   have TL : Hid (x.types.length <= 200) := hZ (by rw [<- HL3.out]; omega);have VL : Hid (x.vals.length <= 200) := hZ (by rw [<- HL4.out]; omega);clear ht hv;go_wp2_with fail
   have hn3 : nt <= 200 := by omega
   have hn4 : nv <= 200 := by omega
   clear q1 q2 g3 g4;go_loopw [4] (fun iv wr => ∃ k : Nat, k <= nt /\ iv = .int .i64 k /\ Hid ((x.types.take k).all fewNm = true) /\ Below wo.heap.size wo wr) (fun iv _ => nt - (intOf iv).toNat)
   case atStart => exact ⟨0, by omega, rfl, hZ (by simp), Below.refl _ _⟩
   case round =>
    obtain ⟨k, hk, rfl, HQk, hbk⟩ := hrel;obtain ⟨wk, rfl⟩ : ∃ wk : World, wk = wr := ⟨_, rfl⟩;have HBk := hZ hbk;have HBW := hZ (below_over HBo.out hbk);have g3 := (hbk.cell (p := ⟨g, _, none⟩) hgo).trans E3.out;by_cases hlk : k < nt
    ·obtain ⟨z, hz⟩ : ∃ z, x.types[k]? = some z := ⟨_, List.getElem?_eq_getElem (by rw [<- HL3.out]; exact hlk)⟩
     obtain ⟨gt, ot, Bn, cB, Bs, dB, rfl, hgt, -, f0, f1, f2, f3, f4, f5, f6, hTz, -⟩ := (HT.out.below hbk).nm hz;have FW := hZ (fewB_any z.typ _ wk ⟨_, rfl, hTz⟩);have HZ := hZ hz;have hk0 : (0 : Int) <= k := by omega
     have hk1 : (k : Int) < nt := by omega
     clear hz hTz hbk;go_wp2_with fail
     refine FW.out.mono ?_; rintro e w3 ⟨rfl, hb3⟩
     have HB3 := hZ (below_over HBk.out hb3);have FIN := hZ (below_over HBW.out hb3);obtain ⟨q, hq⟩ : ∃ q, fewB z.typ = q := ⟨_, rfl⟩;rw [hq];have HQ2 := hZ hq;clear hb3 f0 f1 f2 f3 f4 f5 f6 hq FW g3;cases q with
     | false =>
      have RV : V = false := by
       rw [<- HV1.out];refine all_one _ _ _ _ HX.out ?_;have h1 : x.types.all fewNm = false := all_one _ _ _ _ HZ.out HQ2.out;unfold fewI; rw [h1]; simp
      subst RV;go_wp2_with fail
      go_ret;exact ⟨rfl, FIN.out⟩
     | true =>
      go_wp2_with fail
      go_roundw
      case rel => exact ⟨k + 1, by omega, by go_num, hZ (by rw [all_snoc _ _ _ _ HZ.out, HQk.out]; exact HQ2.out), HB3.out⟩
      case measure => simp [intOf]; omega
    ·have AL3 : Hid (x.types.all fewNm = true) := hZ (by rw [<- HQk.out, List.take_of_length_le (by rw [<- HL3.out]; omega)])
     have g4 := (HBk.out.cell (p := ⟨g, _, none⟩) hgo).trans E4.out;clear hbk;go_wp2_with fail
     clear g3 g4;go_loopw [6] (fun iv wr => ∃ k : Nat, k <= nv /\ iv = .int .i64 k /\ Hid ((x.vals.take k).all fewNm = true) /\ Below wo.heap.size wo wr) (fun iv _ => nv - (intOf iv).toNat)
     case atStart => exact ⟨0, by omega, rfl, hZ (by simp), HBk.out⟩
     case round =>
      obtain ⟨k, hk, rfl, HQk, hbk⟩ := hrel;obtain ⟨wk, rfl⟩ : ∃ wk : World, wk = wr := ⟨_, rfl⟩;have HBk := hZ hbk;have HBW := hZ (below_over HBo.out hbk);have g4 := (hbk.cell (p := ⟨g, _, none⟩) hgo).trans E4.out;by_cases hlk : k < nv
      ·obtain ⟨z, hz⟩ : ∃ z, x.vals[k]? = some z := ⟨_, List.getElem?_eq_getElem (by rw [<- HL4.out]; exact hlk)⟩
       obtain ⟨gt, ot, Bn, cB, Bs, dB, rfl, hgt, -, f0, f1, f2, f3, f4, f5, f6, hTz, -⟩ := (HVL.out.below hbk).nm hz;have FW := hZ (fewB_any z.typ _ wk ⟨_, rfl, hTz⟩);have HZ := hZ hz;have hk0 : (0 : Int) <= k := by omega
       have hk1 : (k : Int) < nv := by omega
       clear hz hTz hbk;go_wp2_with fail
       refine FW.out.mono ?_; rintro e w3 ⟨rfl, hb3⟩
       have HB3 := hZ (below_over HBk.out hb3);have FIN := hZ (below_over HBW.out hb3);obtain ⟨q, hq⟩ : ∃ q, fewB z.typ = q := ⟨_, rfl⟩;rw [hq];have HQ2 := hZ hq;clear hb3 f0 f1 f2 f3 f4 f5 f6 hq FW g4;cases q with
       | false =>
        have RV : V = false := by
         rw [<- HV1.out];refine all_one _ _ _ _ HX.out ?_;have h1 : x.vals.all fewNm = false := all_one _ _ _ _ HZ.out HQ2.out;unfold fewI; rw [h1]; simp
        subst RV;go_wp2_with fail
        go_ret;exact ⟨rfl, FIN.out⟩
       | true =>
        go_wp2_with fail
        go_roundw
        case rel => exact ⟨k + 1, by omega, by go_num, hZ (by rw [all_snoc _ _ _ _ HZ.out, HQk.out]; exact HQ2.out), HB3.out⟩
        case measure => simp [intOf]; omega
      ·have AL4 : Hid (x.vals.all fewNm = true) := hZ (by rw [<- HQk.out, List.take_of_length_le (by rw [<- HL4.out]; omega)])
       have NX : Hid ((env.take (j + 1)).all fewI = true) := hZ (by
        rw [all_snoc _ _ _ _ HX.out, HQ.out];unfold fewI
        rw [AL3.out, AL4.out, decide_eq_true TL.out, decide_eq_true VL.out]; rfl)
       clear hbk;go_wp2_with fail
       go_roundw
       case rel => exact ⟨j + 1, by omega, by go_num, NX, HBW.out⟩
       case measure => simp [intOf]; omega
  ·have RV : V = true := by rw [<- HV1.out, <- HQ.out, List.take_of_length_le (by rw [<- HN.out]; omega)]
   subst RV;go_wp2_with fail
   go_ret;exact ⟨rfl, HBo.out⟩
end Go.Proofs.YtddlmigofilejaaGreat
