/-
  Several texts in one.
-/
import Derived.Test.YtddlmigofilejaaGreatK09
set_option maxRecDepth 100000
namespace Go.Proofs.YtddlmigofilejaaGreat
open Go Go.RowKit
open Go.Sort
open M
section
variable {P : Program} (w : World)
theorem wp_append_own {o : Oper} {a : Act} {K : Act -> World -> Prop} {Q : Exit -> Act -> World -> Prop} (s x : Operand) (t : TypeId)
    (ho : o.op = .call { callee := .builtin .append, args := #[s, x], argTypes := #[t, t] })
    (base : Nat) (e : TypeId) (i : TypeInfo) (z : Value) (size bytes : Nat) (ht : P.underlying t = some (.slice e)) (hi : P.info? e = some i) (hz : i.zero = some z)
    (hsize : i.size = size) (hby : i.bytes = bytes) (hzs : z.cells.size = size) (hsz : 0 < size)
    (v : Value) (n : Nat) (xs : List Value) (hs : a.eval s = v) (hown : w.ownsRow base e size v n xs)
    (ad : Addr) (m c : Nat) (news : List Value) (hx : a.eval x = .slice (some ad) m c) (hl : news.length = m * size) (hnews : ∀ j u, news[j]? = some u -> w.cell? (ad.add j) = some u) (h1 : ∀ u ∈ news, u.oneCell' = true)
    (h63 : n + m <= maxLen) (hbytes : (n + m) * bytes <= 140737488355328) (hbase : base <= w.heap.size)
    (h : ∀ v' w', w'.ownsRow base e size v' (n + m) (xs ++ news) -> w.grownBy w' v.ownBlock -> (v'.ownBlock = v.ownBlock \/ v'.ownBlock = some w.heap.size) -> K (a.put o.dst v') w') : o.wp P a w K Q := by
  obtain ⟨v', w', hr, h2, h3, h4, h5⟩ := run_append_own_at (P := P) w base t o.type e i z size bytes ht hi hz hsize hby hzs hsz v n xs hown ad m c news hl hnews h1 h63 hbytes hbase;unfold Oper.wp execOp
  simp only [ho, resolve, invoke, builtin, Sem.run_bind, Sem.run_pure, Result.andThen_ok, List.map_toArray, List.map_cons, List.map_nil, hs, hx, hr];exact h v' w' h2 h3 h5
end
theorem flatC_len {k : Nat} : ∀ (C : List (List Value)), (∀ l, l ∈ C -> l.length = k) -> C.flatten.length = C.length * k
  | [], _ => by simp
  | a :: r, h => by
    rw [List.flatten_cons, List.length_append, h a List.mem_cons_self, flatC_len r (fun l hl => h l (List.mem_cons_of_mem _ hl)), List.length_cons, Nat.succ_mul];omega
theorem RowIn.lists {α : Type} {R : Reads α} {w : World} {g o : Nat} {xs : List α} (hk : 0 < R.k) (h : RowIn R w (some ⟨g, o, none⟩) xs) :
    ∃ C : List (List Value), C.length = xs.length /\ (∀ l, l ∈ C -> l.length = R.k) /\ (∀ (i : Nat) (l : List Value) (x : α), C[i]? = some l -> xs[i]? = some x -> R.E w l x) /\
      ∀ (j : Nat) (u : Value), C.flatten[j]? = some u -> w.cell? ⟨g, o + j, none⟩ = some u := by
  have hall : ∀ i : Fin xs.length, ∃ l : List Value, R.E w l xs[i] /\ ∀ (j : Nat) (v : Value), l[j]? = some v -> w.cell? ⟨g, o + i.1 * R.k + j, none⟩ = some v := fun i => by
    obtain ⟨g', o', l, hA, hg, hc, hE⟩ := h i.1 xs[i] (List.getElem?_eq_getElem i.2);cases hA
    exact ⟨l, hE, hc⟩
  obtain ⟨F, hF⟩ := Classical.axiomOfChoice hall
  have hat : ∀ (i : Nat) (l : List Value), (List.ofFn F)[i]? = some l -> ∃ hi : i < xs.length, l = F ⟨i, hi⟩ := by
    intro i l hl;rw [List.getElem?_ofFn] at hl;split at hl
    · rename_i hi
      exact ⟨hi, (Option.some.inj hl).symm⟩
    · cases hl
  have hlen : ∀ l, l ∈ List.ofFn F -> l.length = R.k := fun l hl => by
    obtain ⟨i, hi⟩ := List.mem_iff_getElem?.1 hl;obtain ⟨hi', rfl⟩ := hat i l hi;exact R.len _ _ _ (hF ⟨i, hi'⟩).1
  refine ⟨List.ofFn F, by simp, hlen, fun i l x hl hx => ?_, fun j u hu => ?_⟩
  · obtain ⟨hi, rfl⟩ := hat i l hl
    rw [List.getElem?_eq_getElem hi] at hx;cases hx
    exact (hF ⟨i, hi⟩).1
  · have hj := (List.getElem?_eq_some_iff.1 hu).1
    rw [flatC_len _ hlen, List.length_ofFn] at hj;have hi : j / R.k < xs.length := Nat.div_lt_of_lt_mul (by rw [Nat.mul_comm]; exact hj);have hl : (List.ofFn F)[j / R.k]? = some (F ⟨j / R.k, hi⟩) := by rw [List.getElem?_ofFn, dif_pos hi]
    have hf := flatk_at (List.ofFn F) hlen (j / R.k) (j % R.k) _ hl (Nat.mod_lt _ hk);have hd : j / R.k * R.k + j % R.k = j := by rw [Nat.mul_comm]; exact Nat.div_add_mod j R.k
    rw [hd, hu] at hf;have := (hF ⟨j / R.k, hi⟩).2 (j % R.k) u hf.symm
    rwa [Nat.add_assoc, hd] at this
theorem RowIn.of_own {α : Type} {R : Reads α} {w : World} {lo c : Nat} {A : Option Addr} {xs : List α} {C : List (List Value)} (hown : w.ownsRow lo R.T R.k (.slice A xs.length c) xs.length C.flatten)
    (hl : C.length = xs.length) (hall : ∀ l, l ∈ C -> l.length = R.k) (hE : ∀ (i : Nat) (l : List Value) (x : α), C[i]? = some l -> xs[i]? = some x -> R.E w l x) : RowIn R w A xs := by
  intro i x hx;have hi := (List.getElem?_eq_some_iff.1 hx).1;have hli : C[i]? = some C[i] := List.getElem?_eq_getElem (by omega);rcases hown.2 with ⟨e, -⟩ | ⟨g, cap, cur, hv, hB, hg, -, -, hcl, htake⟩
  · cases A with
    | none => simp at e; simp [e.1] at hi
    | some a => simp at e
  · simp at hv
    obtain ⟨rfl, -⟩ := hv;refine ⟨g, 0, C[i], rfl, (Array.getElem?_eq_some_iff.1 hg).1, fun j v hv => ?_, hE i _ x hli hx⟩;have hj := (List.getElem?_eq_some_iff.1 hv).1;rw [hall _ (List.getElem_mem (by omega))] at hj;have hf := flatk_at C hall i j _ hli hj;rw [cZ hg, <- Array.getElem?_toList];have e2 : (cur.toList.take (xs.length * R.k))[i * R.k + j]? = C[i][j]? := by rw [htake, hf]
    rw [List.getElem?_take] at e2;split at e2
    · rw [show 0 + i * R.k + j = i * R.k + j by omega, e2]; exact hv
    · rename_i hn
      have : (i + 1) * R.k <= xs.length * R.k := Nat.mul_le_mul_right _ hi
      rw [Nat.succ_mul] at this;omega
theorem ty_one {w : World} {l : List Value} {t : Ty} (h : TyAt w l t) : ∀ u ∈ l, u.oneCell' = true := by
  obtain ⟨An, cn, As, cs, rfl, -⟩ := h.parts;intro u hu;simp at hu;rcases hu with rfl | rfl | rfl | rfl | rfl | rfl | rfl <;> rfl
theorem small_size {s : ByteArray} (h : smallB s.data.toList = true) : s.size <= 20 := by
  unfold smallB at h
  rw [Bool.and_eq_true, spell_iff] at h;rw [<- len_size]; exact h.1.2.1
theorem great_size {s : ByteArray} (h : greatB s.data.toList = true) : s.size <= 20 := by
  unfold greatB at h
  rw [Bool.and_eq_true, spell_iff] at h;rw [<- len_size]; exact h.1.2.1
theorem mayD_name {d : De} (h : mayD d = true) : d.name.size <= 20 := by
  unfold mayD at h
  split at h
  · rw [Bool.and_eq_true] at h; exact great_size h.1
  · split at h
    · rw [Bool.and_eq_true] at h; exact great_size h.1
    · split at h
      · rw [Bool.and_eq_true] at h; exact small_size h.1
      · cases h
theorem mayM_parts {m : Mo} (h : mayM m = true) : m.imps.length <= 20 /\ m.decs.length <= 60 /\ (∀ x ∈ m.imps, mayI x = true) /\ ∀ d ∈ m.decs, mayD d = true := by
  unfold mayM at h
  simp only [Bool.and_eq_true, decide_eq_true_eq, List.all_eq_true] at h;exact ⟨h.2.1, h.2.2.1, h.2.2.2.1, h.2.2.2.2⟩
theorem MoAt.names {w : World} {l : List Value} {m : Mo} (h : MoAt w l m) : (∀ x ∈ m.imps, x.asn.size <= maxLen) /\ ∀ d ∈ m.decs, d.name.size <= maxLen := by
  obtain ⟨Ai, ci, Ad, cd, -, -, -, -, hI, hD⟩ := h;unfold maxLen
  refine ⟨fun x hx => ?_, fun d hd => ?_⟩
  · obtain ⟨i, hi⟩ := List.getElem?_of_mem hx
    obtain ⟨g, o, l, -, -, -, hE⟩ := hI i x hi;have := hE.2.2.2
    omega
  · obtain ⟨i, hi⟩ := List.getElem?_of_mem hd
    obtain ⟨g, o, l, -, -, -, hs, -⟩ := hD i d hi;omega
def CkAny (w : World) (m : Mo) (e : Ending) (w' : World) : Prop :=
  (mayM m = false /\ e = .returned (.iface 33 (.int .i64 1))) \/ (mayM m = true /\ CkOut w m e w')
theorem check7_any (m : Mo) (l : List Value) (w : World) (h : MoAt w l m) (hM : ∀ d ∈ m.decs, many d.typ <= 9000) (hcap : CapsAt l m) :
    Calls Tryz.prog 148 #[.agg l.toArray] w fun e w' => CkAny w m e w' /\ Below w.heap.size w w' := by
  cases hm : mayM m with
  | false =>
    refine (check7_no m l w h hm).mono ?_;rintro e w' ⟨he, hb⟩;exact ⟨.inl ⟨hm, he⟩, hb⟩
  | true =>
    refine (check7_yes m l w h hm h.names.1 (fun d hd => ⟨hM d hd, h.names.2 d hd⟩) hcap).mono ?_;rintro e w' ⟨he, hb⟩;exact ⟨.inr ⟨hm, he⟩, hb⟩
end Go.Proofs.YtddlmigofilejaaGreat
namespace Go.Proofs.YtddlmigofilejaaGreat
open Go.RowKit
open M
theorem fstN_neg {p : Nat -> Bool} {n : Nat} : ¬ 0 <= fstN p n ↔ ∀ i, i < n -> p i = false := by
  unfold fstN
  cases h : (List.range n).find? p with
  | none =>
    rw [List.find?_eq_none] at h;constructor
    · intro _ i hi
      have := h i (List.mem_range.2 hi)
      simpa using this
    · intro _; simp
  | some i =>
    constructor
    · intro h2; exact absurd (Int.natCast_nonneg i) h2
    · intro h2
      have h3 := List.find?_some h;have h4 := List.mem_range.1 (List.mem_of_find?_eq_some h);rw [h2 i h4] at h3; cases h3
structure Ok7 (m : Mo) : Prop where
  imp : ∀ i, i < m.imps.length -> dupB (·.asn) m.imps i = false
  dec : ∀ i, i < m.decs.length -> dupB (·.name) m.decs i = false
  whole : ∀ (i : Nat) (d : De), m.decs[i]? = some d -> wholeT m d.typ = true
  circ : ∀ (i : Nat) (d : De), m.decs[i]? = some d -> ¬ Reach (entries m) (saidT m d.typ) i
  hid : ∀ (i j : Nat) (d e : De), m.decs[i]? = some d -> m.decs[j]? = some e -> Reach (entries m) (saidT m d.typ) j -> e.kind ≠ 2
theorem dec_at {m : Mo} {i : Nat} (h : i < m.decs.length) : ∃ d, m.decs[i]? = some d := ⟨_, List.getElem?_eq_getElem h⟩
theorem dec_lt {m : Mo} {i : Nat} {d : De} (h : m.decs[i]? = some d) : i < m.decs.length := (List.getElem?_eq_some_iff.1 h).1
theorem hidB_iff {m : Mo} {l : List Nat} : hidB (entries m) l = false ↔ ∀ (j : Nat) (e : De), m.decs[j]? = some e -> Reach (entries m) l j -> e.kind ≠ 2 := by
  unfold hidB
  rw [List.any_eq_false];constructor
  · intro h j e he hr hk
    refine h j (List.mem_range.2 (by rw [entries_len]; exact dec_lt he)) ?_;rw [entries_at he, reachB_iff.2 hr];simp [hk]
  · intro h j hj
    have hj := List.mem_range.1 hj;rw [entries_len] at hj;obtain ⟨e, he⟩ := dec_at hj;rw [entries_at he];simp only [Bool.and_eq_true, not_and, Bool.not_eq_true, beq_eq_false_iff_ne, ne_eq];intro hr;exact h j e he (reachB_iff.1 hr)
theorem check7_none {m : Mo} : check7 m = none ↔ Ok7 m := by
  unfold check7 faults7
  rw [List.find?_eq_none];simp only [List.mem_cons, List.not_mem_nil, or_false, forall_eq_or_imp, forall_eq, decide_eq_true_eq, fstN_neg, entries_len];constructor
  · rintro ⟨h1, h2, h3, h4, h5⟩
    refine ⟨h1, h2, fun i d hd => ?_, fun i d hd hr => ?_, fun i j d e hd he hr => ?_⟩
    · have := h3 i (dec_lt hd)
      rw [atE_some (entries_at hd)] at this;simpa using this
    · have := h4 i (dec_lt hd)
      rw [atE_some (entries_at hd)] at this;rw [reachB_iff.2 hr] at this; cases this
    · have := h5 i (dec_lt hd)
      rw [atE_some (entries_at hd)] at this;exact hidB_iff.1 this j e he hr
  · intro h
    refine ⟨h.imp, h.dec, fun i hi => ?_, fun i hi => ?_, fun i hi => ?_⟩
    · obtain ⟨d, hd⟩ := dec_at hi
      rw [atE_some (entries_at hd)];simpa using h.whole i d hd
    · obtain ⟨d, hd⟩ := dec_at hi
      rw [atE_some (entries_at hd)];cases e : reachB (entries m) (saidT m d.typ) i with
      | false => rfl
      | true => exact absurd (reachB_iff.1 e) (h.circ i d hd)
    · obtain ⟨d, hd⟩ := dec_at hi
      rw [atE_some (entries_at hd)];exact hidB_iff.2 fun j e he hr => h.hid i j d e hd he hr
structure Emb (f : Nat -> Nat) (m' m : Mo) : Prop where
  imps : m'.imps = m.imps
  dec : ∀ (i : Nat) (d : De), m'.decs[i]? = some d -> m.decs[f i]? = some d
  inj : ∀ i j, i < m'.decs.length -> j < m'.decs.length -> f i = f j -> i = j
  sur : ∀ (i : Nat) (d : De), m.decs[i]? = some d -> d.kind ≠ 4 -> ∃ j, j < m'.decs.length /\ f j = i
theorem dup_not {m : Mo} (h : ∀ i, i < m.decs.length -> dupB (·.name) m.decs i = false) {i j : Nat} {d e : De} (hi : m.decs[i]? = some d) (hj : m.decs[j]? = some e) (hn : d.name = e.name) : i = j := by
  have key : ∀ (i j : Nat) (d e : De), m.decs[i]? = some d -> m.decs[j]? = some e -> d.name = e.name -> ¬ i < j := by
    intro i j d e hi hj hn hlt;have h1 := h j (dec_lt hj);rw [dupB_some hj, List.any_eq_false] at h1;exact h1 d (List.mem_of_getElem? (i := i) (by rw [List.getElem?_take, if_pos hlt]; exact hi)) (by simpa using hn)
  have a := key i j d e hi hj hn;have b := key j i e d hj hi hn.symm;omega
section
variable {f : Nat -> Nat} {m' m : Mo}
end
mutual
def locT : Ty -> List Ty
  | .mk k p j d n ns ss => if k = 8 then .mk k p j d n ns ss :: locL ss else locL ss
def locL : List Ty -> List Ty
  | [] => []
  | t :: r => locT t ++ locL r
end
theorem locT_eq (t : Ty) : locT t = (if t.kind = 8 then [t] else []) ++ locL t.subs := by
  cases t; unfold locT Ty.kind Ty.subs; split <;> rfl
def oneN (m : Mo) (x : Ty) : List Nat := if x.mod.size = 0 then (typAt m x.name).toList else []
theorem local_subs {t : Ty} (h : ownOk t = true) (hk : t.kind = 8) : t.subs = [] := by
  unfold ownOk shapeOk at h
  rw [hk] at h;simp only [Bool.and_eq_true, decide_eq_true_eq, reduceCtorEq, if_neg (show ¬ ((8 : Int) = 1 \/ (8 : Int) = 2 \/ (8 : Int) = 3) by decide), if_neg (show ¬ (8 : Int) = 4 by decide), if_neg (show ¬ (8 : Int) = 5 by decide), if_neg (show ¬ (8 : Int) = 6 by decide), if_neg (show ¬ (8 : Int) = 7 by decide), if_pos] at h;exact List.length_eq_zero_iff.1 h.2.1.1.1.1.1
mutual
theorem loc_ok (m : Mo) : ∀ t : Ty, allOk t = true -> saidT m t = (locT t).flatMap (oneN m) /\ wholeT m t = (locT t).all (knoN m)
  | .mk k p j d n ns ss, h => by
    rw [allOk_eq, Bool.and_eq_true] at h;by_cases hk : k = 8
    · have hs : ss = [] := local_subs h.1 hk
      subst hs;unfold saidT wholeT locT
      simp only [if_pos hk];refine ⟨by simp [locL, oneN, Ty.mod, Ty.name], by simp [locL, knoN, Ty.mod, Ty.name]⟩
    · unfold saidT wholeT locT
      simp only [if_neg hk];exact locL_ok m ss h.2
theorem locL_ok (m : Mo) : ∀ l : List Ty, allOkL l = true -> saidL m l = (locL l).flatMap (oneN m) /\ wholeL m l = (locL l).all (knoN m)
  | [], _ => ⟨rfl, rfl⟩
  | t :: r, h => by
    unfold allOkL at h
    rw [Bool.and_eq_true] at h;have h1 := loc_ok m t h.1;have h2 := locL_ok m r h.2;unfold saidL wholeL locL
    rw [h1.1, h2.1, h1.2, h2.2, List.flatMap_append, List.all_append];exact ⟨rfl, rfl⟩
end
theorem loc_may (m : Mo) {t : Ty} (h : mayT t = true) : saidT m t = (locT t).flatMap (oneN m) /\ wholeT m t = (locT t).all (knoN m) := by
  unfold mayT at h
  simp only [Bool.and_eq_true] at h;exact loc_ok m t h.1.1
theorem mayD_sorts {d : De} (h : mayD d = true) : ((d.kind = 1 \/ d.kind = 2) /\ d.typ = noT /\ greatB d.name.data.toList = true) \/ (d.kind = 3 /\ mayT d.typ = true /\ greatB d.name.data.toList = true) \/ (d.kind = 4 /\ mayT d.typ = true /\ smallB d.name.data.toList = true) := by
  unfold mayD at h
  split at h
  · rename_i hk
    rw [Bool.and_eq_true] at h;exact .inl ⟨hk, (sameT_iff _ _).1 h.2, h.1⟩
  · split at h
    · rename_i hk
      rw [Bool.and_eq_true] at h;exact .inr (.inl ⟨hk, h.2, h.1⟩)
    · split at h
      · rename_i hk
        rw [Bool.and_eq_true] at h;exact .inr (.inr ⟨hk, h.2, h.1⟩)
      · cases h
structure Rch (m : Mo) (t : Ty) (F : Nat -> Bool) (L : List Ty) : Prop where
  only : ∀ i, F i = true -> Reach (entries m) (saidT m t) i
  says : ∀ x ∈ L, ∀ i ∈ oneN m x, Reach (entries m) (saidT m t) i
  own : ∀ x ∈ locT t, x ∈ L
  on : ∀ (k : Nat) (d : De), F k = true -> m.decs[k]? = some d -> d.kind = 3 -> ∀ x ∈ locT d.typ, x ∈ L
structure Nm where
 name : ByteArray
 typ : Ty
structure If where
 pkg : ByteArray
 major : Int
 mod : ByteArray
 types : List Nm
 vals : List Nm
def isIf (p : ByteArray) (j : Int) (d : ByteArray) (x : If) : Bool := decide (x.pkg = p) && ((x.major == j) && decide (x.mod = d))
def findI (env : List If) (p : ByteArray) (j : Int) (d : ByteArray) : Option Nat := env.findIdx? (isIf p j d)
def isNm (s : ByteArray) (x : Nm) : Bool := decide (x.name = s)
def ofI (l : List Nm) (s : ByteArray) : Option Nat := l.findIdx? (isNm s)
def impAt (m : Mo) (s : ByteArray) : Option Nat := m.imps.findIdx? fun x => decide (x.asn = s)
def envT (env : List If) (x : Im) (s : ByteArray) : Option Ty :=
 match findI env x.pkg x.major x.mod with
 | none => none
 | some k => match env[k]? with
  | none => none
  | some i => match ofI i.types s with
   | none => none
   | some n => (i.types[n]?).map (·.typ)
def thereT (m : Mo) (env : List If) (l : Ty) : Option Ty :=
 match impAt m l.mod with
 | none => none
 | some k => match m.imps[k]? with
  | none => none
  | some x => match envT env x l.name with
   | none => none
   | some t => if (mayT t && plainT t) = true then some t else none
theorem thereT_plain {m : Mo} {env : List If} {l t : Ty} (h : thereT m env l = some t) : mayT t = true /\ plainT t = true := by
 unfold thereT at h
 split at h
 ·cases h
 ·split at h
  ·cases h
  ·split at h
   ·cases h
   ·split at h
    ·rename_i hp
     cases h
     exact (Bool.and_eq_true _ _).mp hp
    ·cases h
def openT (m : Mo) (pkg : ByteArray) (major : Int) (name : ByteArray) : Ty := .mk 9 pkg major m.name name [] []
def meanT (m : Mo) (pkg : ByteArray) (major : Int) (env : List If) (x : Ty) : Option Ty :=
 if x.mod.size = 0 then
  match typAt m x.name with
  | none => none
  | some k => (m.decs[k]?).map fun d => if d.kind = 3 then d.typ else openT m pkg major x.name
 else thereT m env x
def Ty.withSubs (t : Ty) (us : List Ty) : Ty := .mk t.kind t.pkg t.major t.mod t.name t.names us
def ExpH (mean : Ty -> Option Ty) : Nat -> Ty -> Ty -> Prop
 | 0, _, _ => False
 | h + 1, t, u => (t.kind = 8 /\ ∃ s, mean t = some s /\ ExpH mean h s u) \/ (t.kind ≠ 8 /\ ∃ us : List Ty, u = Ty.withSubs t us /\ us.length = t.subs.length /\ ∀ (i : Nat) (s v : Ty), t.subs[i]? = some s -> us[i]? = some v -> ExpH mean h s v)
theorem ExpH.mono {mean : Ty -> Option Ty} : ∀ {h : Nat} {h' : Nat} {t u : Ty}, h <= h' -> ExpH mean h t u -> ExpH mean h' t u
 | 0, _, _, _, _, hx => hx.elim
 | h + 1, 0, _, _, hle, _ => by omega
 | h + 1, h' + 1, t, u, hle, hx => by
  rcases hx with ⟨h8, s, hs, hx⟩ | ⟨h8, us, rfl, hl, hx⟩
  ·exact .inl ⟨h8, s, hs, ExpH.mono (by omega) hx⟩
  ·exact .inr ⟨h8, us, rfl, hl, fun i s v hs hv => ExpH.mono (by omega) (hx i s v hs hv)⟩
theorem plain_parts {t : Ty} (h : plainT t = true) : t.kind ≠ 8 /\ ∀ s ∈ t.subs, plainT s = true := by
 cases t with
 | mk k p j d n ns ss =>
  unfold plainT at h
  simp only [Bool.and_eq_true, Bool.not_eq_true', beq_eq_false_iff_ne] at h;refine ⟨h.1, ?_⟩
  have key : ∀ l : List Ty, plainL l = true -> ∀ s ∈ l, plainT s = true := by
   intro l;induction l with
   | nil => intro _ s hs; cases hs
   | cons a r ih =>
    intro h s hs;unfold plainL at h
    rw [Bool.and_eq_true] at h;rcases List.mem_cons.1 hs with rfl | hs
    ·exact h.1
    ·exact ih h.2 s hs
  exact key ss h.2
theorem exp_plain (mean : Ty -> Option Ty) : ∀ (N : Nat) (t : Ty), many t <= N -> plainT t = true -> ExpH mean N t t := by
 intro N
 induction N with
 | zero => intro t h; have := many_pos t; omega
 | succ N ih =>
  intro t hN hp;obtain ⟨h8, hs⟩ := plain_parts hp;refine .inr ⟨h8, t.subs, by cases t; rfl, rfl, fun i s v h1 h2 => ?_⟩;rw [h1] at h2;cases h2
  have hm := List.mem_of_getElem? h1;have := manyL_mem _ _ hm
  have e : many t = 1 + manyL t.subs := by cases t; rfl
  exact ih s (by omega) (hs s hm)
structure Good (m : Mo) (env : List If) (t : Ty) : Prop where
 ok : allOk t = true
 kno : ∀ x ∈ locT t, knoN m x = true
 has : ∀ x ∈ locT t, x.mod.size ≠ 0 -> (thereT m env x).isSome = true
 on : ∀ (k : Nat) (d : De), Reach (entries m) (saidT m t) k -> m.decs[k]? = some d -> d.kind = 3 -> ∀ x ∈ locT d.typ, x.mod.size ≠ 0 -> (thereT m env x).isSome = true
noncomputable def reaches (m : Mo) (t : Ty) : Nat := ((List.range m.decs.length).filter fun i => reachB (entries m) (saidT m t) i).length
theorem reaches_le {m : Mo} {s t : Ty} (h : ∀ i, Reach (entries m) (saidT m s) i -> Reach (entries m) (saidT m t) i) : reaches m s <= reaches m t := by
 unfold reaches
 have := filter_le (fun i => !reachB (entries m) (saidT m s) i |> Bool.not) (fun i => reachB (entries m) (saidT m t) i) (fun i hi => reachB_iff.2 (h i (reachB_iff.1 (by simpa using hi)))) (List.range m.decs.length)
 have key : ∀ l : List Nat, (l.filter fun i => reachB (entries m) (saidT m s) i).length <= (l.filter fun i => reachB (entries m) (saidT m t) i).length := by
  intro l;induction l with
  | nil => exact Nat.le_refl _
  | cons a r ih =>
   cases h1 : reachB (entries m) (saidT m s) a with
   | false =>
    cases h2 : reachB (entries m) (saidT m t) a with
    | false => simp [h1, h2]; exact ih
    | true => simp [h1, h2]; omega
   | true =>
    have h2 : reachB (entries m) (saidT m t) a = true := reachB_iff.2 (h a (reachB_iff.1 h1));simp [h1, h2]; exact ih
 exact key _
theorem reaches_lt {m : Mo} {s t : Ty} (h : ∀ i, Reach (entries m) (saidT m s) i -> Reach (entries m) (saidT m t) i) {k : Nat} (hk : k < m.decs.length) (hkt : Reach (entries m) (saidT m t) k) (hks : ¬ Reach (entries m) (saidT m s) k) : reaches m s < reaches m t := by
 unfold reaches
 have le : ∀ l : List Nat, (l.filter fun i => reachB (entries m) (saidT m s) i).length <= (l.filter fun i => reachB (entries m) (saidT m t) i).length := by
  intro l;induction l with
  | nil => exact Nat.le_refl _
  | cons a r ih =>
   cases h1 : reachB (entries m) (saidT m s) a with
   | false =>
    cases h2 : reachB (entries m) (saidT m t) a with
    | false => simp [h1, h2]; exact ih
    | true => simp [h1, h2]; omega
   | true =>
    have h2 : reachB (entries m) (saidT m t) a = true := reachB_iff.2 (h a (reachB_iff.1 h1));simp [h1, h2]; exact ih
 have h1k : reachB (entries m) (saidT m s) k = false := by
  cases e : reachB (entries m) (saidT m s) k with
  | false => rfl
  | true => exact absurd (reachB_iff.1 e) hks
 have h2k := reachB_iff.2 hkt
 have lt : ∀ l : List Nat, k ∈ l -> (l.filter fun i => reachB (entries m) (saidT m s) i).length < (l.filter fun i => reachB (entries m) (saidT m t) i).length := by
  intro l;induction l with
  | nil => intro h; cases h
  | cons a r ih =>
   intro hm;by_cases e : k = a
   ·subst e
    have := le r
    simp [h1k, h2k]; omega
   ·have := ih ((List.mem_cons.1 hm).resolve_left e)
    cases h1 : reachB (entries m) (saidT m s) a with
    | false =>
     cases h2 : reachB (entries m) (saidT m t) a with
     | false => simp [h1, h2]; exact this
     | true => simp [h1, h2]; omega
    | true =>
     have h2 : reachB (entries m) (saidT m t) a = true := reachB_iff.2 (h a (reachB_iff.1 h1));simp [h1, h2]; exact this
 exact lt _ (List.mem_range.2 hk)
theorem said_sub {m : Mo} {t s : Ty} (hk : t.kind ≠ 8) (hs : s ∈ t.subs) : ∀ i ∈ saidT m s, i ∈ saidT m t := by
 rw [saidT_sub m t hk]
 have key : ∀ l : List Ty, s ∈ l -> ∀ i ∈ saidT m s, i ∈ saidL m l := by
  intro l;induction l with
  | nil => intro h; cases h
  | cons a r ih =>
   intro h i hi;unfold saidL
   rcases List.mem_cons.1 h with rfl | h
   ·exact List.mem_append_left _ hi
   ·exact List.mem_append_right _ (ih h i hi)
 exact key _ hs
theorem loc_sub {t s : Ty} (hs : s ∈ t.subs) : ∀ x ∈ locT s, x ∈ locT t := by
 rw [locT_eq t]
 have key : ∀ l : List Ty, s ∈ l -> ∀ x ∈ locT s, x ∈ locL l := by
  intro l;induction l with
  | nil => intro h; cases h
  | cons a r ih =>
   intro h x hx;unfold locL
   rcases List.mem_cons.1 h with rfl | h
   ·exact List.mem_append_left _ hx
   ·exact List.mem_append_right _ (ih h x hx)
 exact fun x hx => List.mem_append_right _ (key _ hs x hx)
theorem Good.sub {m : Mo} {env : List If} {t s : Ty} (h : Good m env t) (hk : t.kind ≠ 8) (hs : s ∈ t.subs) : Good m env s := by
 have ha := h.ok
 rw [allOk_eq, Bool.and_eq_true] at ha
 exact ⟨(allOkL_mem _).1 ha.2 s hs, fun x hx => h.kno x (loc_sub hs x hx), fun x hx => h.has x (loc_sub hs x hx), fun k d hr => h.on k d (hr.mono fun j hj => .one (said_sub hk hs j hj))⟩
theorem exp_some {m : Mo} {pkg : ByteArray} {major : Int} {env : List If} (hm : mayM m = true) (ok : Ok7 m) : ∀ (N : Nat) (M : Nat) (t : Ty), reaches m t <= N -> many t <= M -> Good m env t -> ∃ h u, ExpH (meanT m pkg major env) h t u := by
 intro N
 induction N using Nat.strongRecOn with
 | ind N ihN =>
 intro M
 induction M with
 | zero => intro t _ h; have := many_pos t; omega
 | succ M ih =>
  intro t hN hM hg;by_cases hk : t.kind = 8
  ·by_cases hz : t.mod.size = 0
   ·have hx : t ∈ locT t := by rw [locT_eq, if_pos hk]; simp
    have h1 := hg.kno t hx;unfold knoN at h1
    rw [if_pos hz] at h1;obtain ⟨k, hk1⟩ := Option.isSome_iff_exists.1 h1;obtain ⟨d, hd⟩ := dec_at (typAt_lt hk1);have hsd : saidT m t = [k] := by rw [saidT_local m t hk, if_pos hz, hk1]; rfl
    by_cases h3 : d.kind = 3
    ·have hmean : meanT m pkg major env t = some d.typ := by unfold meanT; rw [if_pos hz, hk1]; simp [hd, h3]
     have hrk : Reach (entries m) (saidT m t) k := .one (by rw [hsd]; simp);have hin : ∀ i, Reach (entries m) (saidT m d.typ) i -> Reach (entries m) (saidT m t) i := fun i hr => hr.mono fun j hj => .step hrk (entries_at hd) hj
     have hmd := (mayM_parts hm).2.2.2 d (List.mem_of_getElem? hd)
     have hmt : mayT d.typ = true := by
      rcases mayD_sorts hmd with ⟨e, -⟩ | ⟨-, e, -⟩ | ⟨e, -⟩
      ·rcases e with e | e <;> rw [h3] at e <;> cases e
      ·exact e
      ·rw [h3] at e; cases e
     have hgd : Good m env d.typ := by
      refine ⟨?_, fun x hx => ?_, fun x hx hz => hg.on k d hrk hd h3 x hx hz, fun j e hr => hg.on j e (hin j hr)⟩
      ·unfold mayT at hmt
       simp only [Bool.and_eq_true] at hmt;exact hmt.1.1
      ·have := ok.whole k d hd
       rw [(loc_may m hmt).2, List.all_eq_true] at this;exact this x hx
     have hlt := reaches_lt hin (dec_lt hd) hrk (ok.circ k d hd);obtain ⟨h, u, hu⟩ := ihN (reaches m d.typ) (by omega) (many d.typ) d.typ (Nat.le_refl _) (Nat.le_refl _) hgd;exact ⟨h + 1, u, .inl ⟨hk, _, hmean, hu⟩⟩
    ·have hmean : meanT m pkg major env t = some (openT m pkg major t.name) := by unfold meanT; rw [if_pos hz, hk1]; simp [hd, h3]
     exact ⟨2, openT m pkg major t.name, .inl ⟨hk, _, hmean, .inr ⟨by show (9 : Int) ≠ 8; decide, [], rfl, rfl, fun i s v h => by simp [openT, Ty.subs] at h⟩⟩⟩
   ·have hx : t ∈ locT t := by rw [locT_eq, if_pos hk]; simp
    obtain ⟨s, hs⟩ := Option.isSome_iff_exists.1 (hg.has t hx hz);have hmean : meanT m pkg major env t = some s := by unfold meanT; rw [if_neg hz, hs]
    exact ⟨many s + 1, s, .inl ⟨hk, s, hmean, exp_plain _ _ s (Nat.le_refl _) (thereT_plain hs).2⟩⟩
  ·have hall : ∀ i : Fin t.subs.length, ∃ q : Nat × Ty, ExpH (meanT m pkg major env) q.1 t.subs[i] q.2 := fun i => by
    have hm1 : t.subs[i] ∈ t.subs := List.getElem_mem _;have h1 := manyL_mem _ _ hm1;have e : many t = 1 + manyL t.subs := by cases t; rfl
    obtain ⟨h, u, hu⟩ := ih t.subs[i] (Nat.le_trans (reaches_le fun j hr => hr.mono fun q hq => .one (said_sub hk hm1 q hq)) hN) (by omega) (hg.sub hk hm1);exact ⟨(h, u), hu⟩
   obtain ⟨F, hF⟩ := Classical.axiomOfChoice hall
   obtain ⟨H, hH⟩ : ∃ H, ∀ i, (F i).1 <= H := by
    have key : ∀ l : List Nat, ∃ H, ∀ x ∈ l, x <= H := by
     intro l;induction l with
     | nil => exact ⟨0, fun x h => by cases h⟩
     | cons a r ih =>
      obtain ⟨H, hH⟩ := ih
      exact ⟨max a H, fun x hx => by
       rcases List.mem_cons.1 hx with rfl | hx
       ·omega
       ·have := hH x hx; omega⟩
    obtain ⟨H, hH⟩ := key (List.ofFn fun i => (F i).1);exact ⟨H, fun i => hH _ (List.mem_ofFn.2 ⟨i, rfl⟩)⟩
   refine ⟨H + 1, Ty.withSubs t (List.ofFn fun i => (F i).2), .inr ⟨hk, _, rfl, by simp, fun i s v hs hv => ?_⟩⟩;have hi := (List.getElem?_eq_some_iff.1 hs).1;rw [List.getElem?_eq_getElem hi] at hs;cases hs
   rw [List.getElem?_ofFn, dif_pos hi] at hv;cases hv
   exact (hF ⟨i, hi⟩).mono (hH _)
theorem exp_is_plain {m : Mo} {pkg : ByteArray} {major : Int} {env : List If} : ∀ (h : Nat) (t u : Ty), ExpH (meanT m pkg major env) h t u -> plainT u = true := by
 intro h
 induction h with
 | zero => intro t u hx; exact hx.elim
 | succ h ih =>
  intro t u hx;rcases hx with ⟨h8, s, hs, hx⟩ | ⟨h8, us, rfl, hl, hx⟩
  ·exact ih s u hx
  ·unfold Ty.withSubs plainT
   have e : (t.kind == 8) = false := by simpa using h8
   rw [e]
   have key : ∀ l : List Ty, (∀ v ∈ l, plainT v = true) -> plainL l = true := by
    intro l;induction l with
    | nil => intro _; rfl
    | cons a r ih =>
     intro h;unfold plainL
     rw [h a List.mem_cons_self, ih fun v hv => h v (List.mem_cons_of_mem _ hv)]; rfl
   rw [key us fun v hv => ?_]
   ·rfl
   obtain ⟨i, hi⟩ := List.mem_iff_getElem?.1 hv;have hil := (List.getElem?_eq_some_iff.1 hi).1;exact ih _ v (hx i _ v (List.getElem?_eq_getElem (by omega)) hi)
theorem local_great {t : Ty} (h : ownOk t = true) (hk : t.kind = 8) : greatB t.name.data.toList = true := by
  unfold ownOk shapeOk at h
  rw [hk] at h;simp only [Bool.and_eq_true, decide_eq_true_eq, reduceCtorEq, if_neg (show ¬ ((8 : Int) = 1 \/ (8 : Int) = 2 \/ (8 : Int) = 3) by decide), if_neg (show ¬ (8 : Int) = 4 by decide), if_neg (show ¬ (8 : Int) = 5 by decide), if_neg (show ¬ (8 : Int) = 6 by decide), if_neg (show ¬ (8 : Int) = 7 by decide), if_pos] at h;exact h.2.1.2
theorem open_ok {m : Mo} {pkg : ByteArray} {major : Int} {name : ByteArray} (hm : mayM m = true) (hp : smallB pkg.data.toList = true) (h1 : 1 <= major) (h2 : major <= 999999999) (hn : greatB name.data.toList = true) : allOk (openT m pkg major name) = true := by
  have hs : smallB m.name.data.toList = true := by
    unfold mayM at hm
    simp only [Bool.and_eq_true] at hm;exact hm.1
  rw [allOk_eq];unfold openT ownOk shapeOk
  simp [Ty.kind, Ty.subs, Ty.names, Ty.pkg, Ty.mod, Ty.name, Ty.major, namesOk, allOkL, hs, hp, hn, h1, h2]
theorem with_ok {t : Ty} {us : List Ty} (h : ownOk t = true) (hl : us.length = t.subs.length) : ownOk (Ty.withSubs t us) = true := by
  cases t with
  | mk k p j d n ns ss =>
    unfold ownOk shapeOk noMore at h ⊢
    simp only [Ty.withSubs, Ty.kind, Ty.pkg, Ty.major, Ty.mod, Ty.name, Ty.names, Ty.subs] at h hl ⊢;simp only [hl]; exact h
theorem exp_ok {m : Mo} {pkg : ByteArray} {major : Int} {env : List If} (hm : mayM m = true) (hp : smallB pkg.data.toList = true) (h1 : 1 <= major) (h2 : major <= 999999999) : ∀ (h : Nat) (t u : Ty), allOk t = true -> ExpH (meanT m pkg major env) h t u -> allOk u = true := by
  intro h;induction h with
  | zero => intro t u _ hx; exact hx.elim
  | succ h ih =>
    intro t u ht hx;rcases hx with ⟨h8, s, hs, hx⟩ | ⟨h8, us, rfl, hl, hx⟩
    · refine ih s u ?_ hx
      unfold meanT at hs
      split at hs
      · split at hs
        · cases hs
        · rename_i k hk
          obtain ⟨d, hd⟩ := dec_at (typAt_lt hk);rw [hd] at hs;simp only [Option.map_some, Option.some.injEq] at hs;have ho : ownOk t = true := by rw [allOk_eq, Bool.and_eq_true] at ht; exact ht.1
          split at hs
          · rename_i h3
            rcases mayD_sorts ((mayM_parts hm).2.2.2 d (List.mem_of_getElem? hd)) with ⟨e, -⟩ | ⟨-, e, -⟩ | ⟨e, -⟩
            · rcases e with e | e <;> rw [h3] at e <;> cases e
            · rw [<- hs]; unfold mayT at e; simp only [Bool.and_eq_true] at e; exact e.1.1
            · rw [h3] at e; cases e
          · rw [<- hs]; exact open_ok hm hp h1 h2 (local_great ho h8)
      · have := (thereT_plain hs).1
        unfold mayT at this
        simp only [Bool.and_eq_true] at this;exact this.1.1
    · rw [allOk_eq, Bool.and_eq_true] at ht ⊢
      refine ⟨with_ok ht.1 hl, (allOkL_mem _).2 fun v hv => ?_⟩;replace hv : v ∈ us := hv
      obtain ⟨i, hi⟩ := List.mem_iff_getElem?.1 hv;have hil := (List.getElem?_eq_some_iff.1 hi).1;have hs : t.subs[i]? = some t.subs[i] := List.getElem?_eq_getElem (by omega);exact ih _ v ((allOkL_mem _).1 ht.2 _ (List.mem_of_getElem? hs)) (hx i _ v hs hi)
theorem exp_one {mean : Ty -> Option Ty} : ∀ (h h' : Nat) (t u u' : Ty), ExpH mean h t u -> ExpH mean h' t u' -> u = u' := by
  intro h;induction h with
  | zero => intro h' t u u' hx; exact hx.elim
  | succ h ih =>
    intro h' t u u' hx hy;cases h' with
    | zero => exact hy.elim
    | succ h' =>
      rcases hx with ⟨h8, s, hs, hx⟩ | ⟨h8, us, rfl, hl, hx⟩ <;> rcases hy with ⟨h8', s', hs', hy⟩ | ⟨h8', us', rfl, hl', hy⟩
      · rw [hs] at hs'
        cases hs'
        exact ih h' s u u' hx hy
      · exact absurd h8 h8'
      · exact absurd h8' h8
      · have : us = us' := by
          apply List.ext_getElem? 
          intro i;by_cases hi : i < t.subs.length
          · have h1 : us[i]? = some us[i] := List.getElem?_eq_getElem (by omega)
            have h2 : us'[i]? = some us'[i] := List.getElem?_eq_getElem (by omega);have h3 : t.subs[i]? = some t.subs[i] := List.getElem?_eq_getElem hi;rw [h1, h2, ih h' _ _ _ (hx i _ _ h3 h1) (hy i _ _ h3 h2)]
          · rw [List.getElem?_eq_none (by omega), List.getElem?_eq_none (by omega)]
        rw [this]
end Go.Proofs.YtddlmigofilejaaGreat
namespace Go.Proofs.YtddlmigofilejaaGreat
open Go Go.ChangeShapes Go.WideShapes Go.ChangeAt Go.RowKit Go.Joins Go.Deep
open M
def nmE (w : World) (l : List Value) (x : Nm) : Prop := x.name.size <= 9223372036854775807 /\ ∃ l7 : List Value, l = .string x.name :: l7 /\ TyAt w l7 x.typ
def nmR : Reads Nm := ⟨8, 52, nmE, fun _ _ _ _ _ _ ⟨hs, l7, e, h⟩ hz hb => ⟨hs, l7, e, h.move hz hb⟩, fun _ _ _ _ ⟨hs, l7, e, h⟩ hb => ⟨hs, l7, e, h.keep hb⟩, fun _ _ _ _ ⟨hs, l7, e, h⟩ => ⟨hs, l7, e, h.free⟩, fun _ l x ⟨_, l7, e, h⟩ => by rw [e]; simp [h.len]⟩
def ifE (w : World) (l : List Value) (x : If) : Prop :=
  ∃ (At : Option Addr) (ct : Nat) (Av : Option Addr) (cv : Nat), l = [.string x.pkg, .int .i64 x.major, .string x.mod, .slice At x.types.length ct, .slice Av x.vals.length cv] /\ x.pkg.size <= 9223372036854775807 /\ x.mod.size <= 9223372036854775807 /\ x.types.length <= 9223372036854775807 /\ x.vals.length <= 9223372036854775807 /\ RowIn nmR w At x.types /\ RowIn nmR w Av x.vals
def ifR : Reads If := ⟨5, 44, ifE, fun _ _ _ _ _ _ ⟨At, ct, Av, cv, e, h1, h2, h3, h4, h5, h6⟩ hz hb => ⟨At, ct, Av, cv, e, h1, h2, h3, h4, h5.move hz hb, h6.move hz hb⟩, fun _ _ _ _ ⟨At, ct, Av, cv, e, h1, h2, h3, h4, h5, h6⟩ hb => ⟨At, ct, Av, cv, e, h1, h2, h3, h4, h5.below hb, h6.below hb⟩, fun _ _ _ _ ⟨At, ct, Av, cv, e, h1, h2, h3, h4, h5, h6⟩ => ⟨At, ct, Av, cv, e, h1, h2, h3, h4, h5.free, h6.free⟩, fun _ l x ⟨At, ct, Av, cv, e, _⟩ => by rw [e]; rfl⟩
theorem RowIn.nm {w : World} {A : Option Addr} {xs : List Nm} (h : RowIn nmR w A xs) {i : Nat} {x : Nm} (hx : xs[i]? = some x) : ∃ (g o : Nat) (Bn : Option Addr) (cB : Nat) (Bs : Option Addr) (dB : Nat), A = some ⟨g, o, none⟩ /\ g < w.heap.size /\
    w.cell? ⟨g, o + i * 8, none⟩ = some (.string x.name) /\ w.cell? ⟨g, o + i * 8 + 1, none⟩ = some (.int .i64 x.typ.kind) /\ w.cell? ⟨g, o + i * 8 + 1 + 1, none⟩ = some (.string x.typ.pkg) /\ w.cell? ⟨g, o + i * 8 + 1 + 2, none⟩ = some (.int .i64 x.typ.major) /\ w.cell? ⟨g, o + i * 8 + 1 + 3, none⟩ = some (.string x.typ.mod) /\
    w.cell? ⟨g, o + i * 8 + 1 + 4, none⟩ = some (.string x.typ.name) /\ w.cell? ⟨g, o + i * 8 + 1 + 5, none⟩ = some (.slice Bn x.typ.names.length cB) /\ w.cell? ⟨g, o + i * 8 + 1 + 6, none⟩ = some (.slice Bs x.typ.subs.length dB) /\ TyAt w [.int .i64 x.typ.kind, .string x.typ.pkg, .int .i64 x.typ.major, .string x.typ.mod, .string x.typ.name, .slice Bn x.typ.names.length cB, .slice Bs x.typ.subs.length dB] x.typ /\ x.name.size <= 9223372036854775807 := by
  obtain ⟨g, o, l, hA, hg, hc, hs, l7, rfl, hT⟩ := h i x hx;obtain ⟨Bn, cB, Bs, dB, rfl, -⟩ := hT.parts;exact ⟨g, o, Bn, cB, Bs, dB, hA, hg, hc 0 _ rfl, hc 1 _ rfl, hc 2 _ rfl, hc 3 _ rfl, hc 4 _ rfl, hc 5 _ rfl, hc 6 _ rfl, hc 7 _ rfl, hT, hs⟩
theorem RowIn.ifc {w : World} {A : Option Addr} {xs : List If} (h : RowIn ifR w A xs) {i : Nat} {x : If} (hx : xs[i]? = some x) : ∃ (g o : Nat) (At : Option Addr) (ct : Nat) (Av : Option Addr) (cv : Nat), A = some ⟨g, o, none⟩ /\ g < w.heap.size /\
    w.cell? ⟨g, o + i * 5, none⟩ = some (.string x.pkg) /\ w.cell? ⟨g, o + i * 5 + 1, none⟩ = some (.int .i64 x.major) /\ w.cell? ⟨g, o + i * 5 + 2, none⟩ = some (.string x.mod) /\ w.cell? ⟨g, o + i * 5 + 3, none⟩ = some (.slice At x.types.length ct) /\ w.cell? ⟨g, o + i * 5 + 4, none⟩ = some (.slice Av x.vals.length cv) /\
    x.pkg.size <= 9223372036854775807 /\ x.mod.size <= 9223372036854775807 /\ x.types.length <= 9223372036854775807 /\ x.vals.length <= 9223372036854775807 /\ RowIn nmR w At x.types /\ RowIn nmR w Av x.vals := by
  obtain ⟨g, o, l, hA, hg, hc, At, ct, Av, cv, rfl, h1, h2, h3, h4, h5, h6⟩ := h i x hx;exact ⟨g, o, At, ct, Av, cv, hA, hg, hc 0 _ rfl, hc 1 _ rfl, hc 2 _ rfl, hc 3 _ rfl, hc 4 _ rfl, h1, h2, h3, h4, h5, h6⟩
section
variable {H : Type} {enc : TypeId × Value -> H} {w : World} {base : Nat} {sp : Nat -> Bool} {held : Bool}
theorem nmCells : Tryz.prog.cellsOf 52 = 8 := by kernel_rfl
theorem ifCells : Tryz.prog.cellsOf 44 = 5 := by kernel_rfl
theorem nmCellsL : Tryz.prog.cellsOf 42 = 1 := by kernel_rfl
theorem list8 {α : Type} : ∀ l : List α, l.length = 8 -> ∃ a r, l = a :: r /\ r.length = 7
  | a :: r, h => ⟨a, r, rfl, by simpa using h⟩
  | [], h => by simp at h
theorem list5 {α : Type} : ∀ l : List α, l.length = 5 -> ∃ a b c d e, l = [a, b, c, d, e]
  | [a, b, c, d, e], _ => ⟨a, b, c, d, e, rfl⟩
  | [], h => by simp at h
  | [_], h => by simp at h
  | [_, _], h => by simp at h
  | [_, _, _], h => by simp at h
  | [_, _, _, _], h => by simp at h
  | _ :: _ :: _ :: _ :: _ :: _ :: _, h => by simp at h
theorem open_nm (n : Nat) (cs : List Value) (x : DataW H × List MemPlace) (h : DataW.trod enc Tryz.prog w base sp held n 52 cs = some x) : ∃ a, nmE w cs a := by
  obtain ⟨xs, n, hfuel, -, hlen, hxl, hf⟩ := DataW.trod_struct Tryz.underlying52 h;rw [nmCells] at hlen;obtain ⟨c0, r, rfl, hr⟩ := list8 cs hlen;have q : ∀ j, j < 2 -> ∃ y, xs[j]? = some y := fun j hj => ⟨_, List.getElem?_eq_getElem (by rw [hxl]; exact hj)⟩
  obtain ⟨y0, e0⟩ := q 0 (by omega); obtain ⟨y1, e1⟩ := q 1 (by omega)
  have g0 : DataW.trod enc Tryz.prog w base sp held n 9 (((c0 :: r).drop 0).take (Tryz.prog.cellsOf 9)) = some y0 := (hf 0 _ rfl).trans e0;have g1 : DataW.trod enc Tryz.prog w base sp held n 50 (((c0 :: r).drop 1).take (Tryz.prog.cellsOf 50)) = some y1 := (hf 1 _ rfl).trans e1;rw [tyCellsStr] at g0;rw [tyCells, show ((c0 :: r).drop 1).take 7 = r by simp [<- hr]] at g1;obtain ⟨s, k0, -, z0⟩ := DataW.trod_string Tryz.underlying9 g0;obtain ⟨t, ht⟩ := open_tree _ _ _ g1;simp at k0;subst k0;unfold maxLen at z0
  exact ⟨⟨s, t⟩, z0, r, rfl, ht⟩
theorem open_if (n : Nat) (cs : List Value) (x : DataW H × List MemPlace) (h : DataW.trod enc Tryz.prog w base sp held n 44 cs = some x) : ∃ a, ifE w cs a := by
  obtain ⟨xs, n, hfuel, -, hlen, hxl, hf⟩ := DataW.trod_struct Tryz.underlying44 h;rw [ifCells] at hlen;obtain ⟨c0, c1, c2, c3, c4, rfl⟩ := list5 cs hlen;have q : ∀ j, j < 5 -> ∃ y, xs[j]? = some y := fun j hj => ⟨_, List.getElem?_eq_getElem (by rw [hxl]; exact hj)⟩
  obtain ⟨y0, e0⟩ := q 0 (by omega); obtain ⟨y1, e1⟩ := q 1 (by omega); obtain ⟨y2, e2⟩ := q 2 (by omega); obtain ⟨y3, e3⟩ := q 3 (by omega); obtain ⟨y4, e4⟩ := q 4 (by omega)
  have g0 : DataW.trod enc Tryz.prog w base sp held n 9 (([c0, c1, c2, c3, c4].drop 0).take (Tryz.prog.cellsOf 9)) = some y0 := (hf 0 _ rfl).trans e0;have g1 : DataW.trod enc Tryz.prog w base sp held n 3 (([c0, c1, c2, c3, c4].drop 1).take (Tryz.prog.cellsOf 3)) = some y1 := (hf 1 _ rfl).trans e1;have g2 : DataW.trod enc Tryz.prog w base sp held n 9 (([c0, c1, c2, c3, c4].drop 2).take (Tryz.prog.cellsOf 9)) = some y2 := (hf 2 _ rfl).trans e2;have g3 : DataW.trod enc Tryz.prog w base sp held n 42 (([c0, c1, c2, c3, c4].drop 3).take (Tryz.prog.cellsOf 42)) = some y3 := (hf 3 _ rfl).trans e3;have g4 : DataW.trod enc Tryz.prog w base sp held n 42 (([c0, c1, c2, c3, c4].drop 4).take (Tryz.prog.cellsOf 42)) = some y4 := (hf 4 _ rfl).trans e4;rw [tyCellsStr] at g0 g2;rw [tyCellsInt] at g1;rw [nmCellsL] at g3 g4;obtain ⟨p, k0, -, z0⟩ := DataW.trod_string Tryz.underlying9 g0;obtain ⟨m, k1, -, -⟩ := DataW.trod_int Tryz.underlying3 g1;obtain ⟨d, k2, -, z2⟩ := DataW.trod_string Tryz.underlying9 g2;have h3 : DataW.trod enc Tryz.prog w base sp held n 42 [c3] = some y3 := g3;have h4 : DataW.trod enc Tryz.prog w base sp held n 42 [c4] = some y4 := g4;obtain ⟨At, ct, lt, rfl, hlt, kT, hT⟩ := open_rows7 nmR 42 ⟨⟨#[]⟩, noT⟩ Tryz.underlying42 nmCells (by decide) open_nm h3;obtain ⟨Av, cv, lv, rfl, hlv, kV, hV⟩ := open_rows7 nmR 42 ⟨⟨#[]⟩, noT⟩ Tryz.underlying42 nmCells (by decide) open_nm h4;simp at k0 k1 k2;subst k0 k1 k2;unfold maxLen at z0 z2 hlt hlv
  exact ⟨⟨p, m, d, lt, lv⟩, At, ct, Av, cv, rfl, z0, z2, hlt, hlv, hT, hV⟩
theorem open_env {r : Go.Reach} {b0 : Nat} {v : Value} {d : DataW H} {p : List MemPlace} (hv : Value.okWide Tryz.prog w r b0 22 v) (h : DataW.Trod enc Tryz.prog w base sp held 22 v d p) : ∃ (A : Option Addr) (c : Nat) (env : List If), v = .slice A env.length c /\ env.length <= maxLen /\ RowIn ifR w A env := by
  obtain ⟨a, n, c, rfl⟩ := okWide_slice Tryz.underlying22 hv;obtain ⟨fuel, hf⟩ := h;have hf' : DataW.trod enc Tryz.prog w base sp held fuel 22 [.slice a n c] = some (d, p) := hf
  obtain ⟨A, c, l, e, hl, -, hR⟩ := open_rows7 ifR 22 ⟨⟨#[]⟩, 0, ⟨#[]⟩, [], []⟩ Tryz.underlying22 ifCells (by decide) open_if hf';exact ⟨A, c, l, e, hl, hR⟩
end
end Go.Proofs.YtddlmigofilejaaGreat
namespace Go.Proofs.YtddlmigofilejaaGreat
open Go Go.RowKit Go.Shelf
open Go.Sort Go.Maps
open M
def optN : Option Nat -> Int
  | some i => i
  | none => -1
theorem idx_yes {α : Type} {p : α -> Bool} {l : List α} {k : Nat} {x : α} (hx : l[k]? = some x) (hn : ∀ y ∈ l.take k, p y = false) (h : p x = true) : l.findIdx? p = some k := by
  rw [List.findIdx?_eq_some_iff_getElem];obtain ⟨hk, rfl⟩ := List.getElem?_eq_some_iff.1 hx;refine ⟨hk, h, fun j hj => ?_⟩;rw [hn _ (List.mem_of_getElem? (i := j) (by rw [List.getElem?_take, if_pos hj]; exact List.getElem?_eq_getElem (by omega)))];simp
theorem idx_no {α : Type} {p : α -> Bool} {l : List α} (hn : ∀ x ∈ l, p x = false) : l.findIdx? p = none := by rw [List.findIdx?_eq_none_iff]; exact hn
end Go.Proofs.YtddlmigofilejaaGreat
