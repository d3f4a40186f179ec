/-
  Several texts in one.
-/
import Derived.Test.YteecgiebimdbhaaGreatDoorK05
import Derived.Shelf.SlSortCmp.WholeK
import Derived.Ground.SlsfProg
import Derived.Sort.OwnSorted
set_option maxRecDepth 100000
set_option maxHeartbeats 4000000
namespace Go.Proofs.YteecgiebimdbhaaGreatDoor
open Go.RowKit
open Go.Sort
open M
theorem great_base {l : List UInt8} (h : greatB l = true) : baseT l = 0 := by
  unfold baseT
  split
  · rename_i e; subst e; exact absurd h (by decide)
  split
  · rename_i e; subst e; exact absurd h (by decide)
  split
  · rename_i e; subst e; exact absurd h (by decide)
  split
  · rename_i e; subst e; exact absurd h (by decide)
  rfl
theorem baseT_range (l : List UInt8) : baseT l = 0 \/ baseT l = 1 \/ baseT l = 2 \/ baseT l = 3 \/ baseT l = 4 := by
  unfold baseT
  repeat' split
  all_goals simp
def kindR (S : Toks) (f d i c : Nat) (k : Int) : Res Ty :=
  if k = 4 then listR S f d i c
  else if k = 5 then partsR S 5 [125] f d (i + 1) (c + 1)
  else if k = 6 then partsR S 6 [93] f d (i + 1) (c + 1)
  else if k = 7 then fnR S f d (i + 1) (c + 1)
  else if k = 8 then (if S.small i = true then pLocal S (S.T i) (i + 1) (c + 1) else if S.great i = false then .err 2 i else .ok (localT ⟨#[]⟩ (S.T i)) (i + 1) (c + 1))
  else if k = 9 then pOpen S (i + 1) (c + 1)
  else .ok (leafK k) (i + 1) (c + 1)
theorem begins_iff (S : Toks) {i : Nat} (hi : i < S.n) : S.begins i = decide (begunK (S.K i) (S.T i) ≠ 0) := by
  have hs : S.small i = smallK (S.K i) (S.T i) := by rw [<- small_k]; simp [hi]
  have hg : S.great i = greatK (S.K i) (S.T i) := by rw [<- great_k]; simp [hi]
  unfold Toks.begins begunK
  rw [hs, hg];by_cases h : smallK (S.K i) (S.T i) = true \/ greatK (S.K i) (S.T i) = true
  · rw [if_pos h]
    rcases h with h | h <;> simp [h, hi]
  · rw [if_neg h]
    have h1 : smallK (S.K i) (S.T i) = false := by cases e : smallK (S.K i) (S.T i) with | true => exact absurd (.inl e) h | false => rfl
    have h2 : greatK (S.K i) (S.T i) = false := by cases e : greatK (S.K i) (S.T i) with | true => exact absurd (.inr e) h | false => rfl
    rw [h1, h2];by_cases k2 : S.K i = 2
    · rw [if_pos k2]
      rcases baseT_range (S.T i).data.toList with e | e | e | e | e <;> simp [hi, k2, e]
    · rw [if_neg k2]
      by_cases k4 : S.K i = 4
      · rw [if_pos k4]
        unfold signK
        repeat' split
        all_goals simp_all
      · rw [if_neg k4]
        simp [k2, k4]
theorem rest_kind (S : Toks) {f d i c : Nat} (hi : i < S.n) (hb : S.begins i = true) : restR S f d i c = kindR S f d i c (begunK (S.K i) (S.T i)) := by
  have hs : S.small i = smallK (S.K i) (S.T i) := by rw [<- small_k]; simp [hi]
  have hg : S.great i = greatK (S.K i) (S.T i) := by rw [<- great_k]; simp [hi]
  rw [begins_iff S hi] at hb;unfold restR
  by_cases h1 : smallK (S.K i) (S.T i) = true
  · have e : begunK (S.K i) (S.T i) = 8 := if_pos (.inl h1)
    have k1 : S.K i = 1 := by unfold smallK at h1; simp at h1; exact h1.1
    rw [e, if_pos k1];unfold kindR
    rw [hs, h1];rfl
  by_cases h2 : greatK (S.K i) (S.T i) = true
  · have e : begunK (S.K i) (S.T i) = 8 := if_pos (.inr h2)
    have k2 : S.K i = 2 /\ greatB (S.T i).data.toList = true := by unfold greatK at h2; simpa using h2
    have hz := great_base k2.2;rw [e, if_neg (by rw [k2.1]; decide), if_pos k2.1, hz];unfold kindR
    rw [hs, hg, h2, show smallK (S.K i) (S.T i) = false by simpa using h1];rfl
  have e : begunK (S.K i) (S.T i) = if S.K i = 2 then baseT (S.T i).data.toList else if S.K i = 4 then signK (S.T i).data.toList else 0 := if_neg (fun x => x.elim h1 h2)
  rw [e] at hb ⊢;by_cases k2 : S.K i = 2
  · rw [if_pos k2] at hb ⊢
    rw [if_neg (by rw [k2]; decide), if_pos k2];rcases baseT_range (S.T i).data.toList with q | q | q | q | q
    · rw [q] at hb; simp at hb
    all_goals rw [q]; rfl
  · rw [if_neg k2] at hb ⊢
    by_cases k4 : S.K i = 4
    · rw [if_pos k4] at hb ⊢
      rw [if_neg (by rw [k4]; decide), if_neg k2];by_cases a1 : (S.T i).data.toList = [123]
      · rw [if_pos a1, a1]; rfl
      rw [if_neg a1];by_cases a2 : (S.T i).data.toList = [91]
      · rw [if_pos a2, a2]; rfl
      rw [if_neg a2];by_cases a3 : (S.T i).data.toList = [60]
      · rw [if_pos a3, a3]; rfl
      rw [if_neg a3];by_cases a4 : (S.T i).data.toList = [40]
      · rw [a4]; rfl
      · have : signK (S.T i).data.toList = 0 := by unfold signK; rw [if_neg a1, if_neg a2, if_neg a4, if_neg a3]
        rw [this] at hb; simp at hb
    · rw [if_neg k4] at hb; simp at hb
end Go.Proofs.YteecgiebimdbhaaGreatDoor
namespace Go.Proofs.YteecgiebimdbhaaGreatDoor
open Go Go.Sort Go.RowKit
def feeds (ops : Array Oper) : Bool := (List.range (ops.size - 1)).all fun i => (List.range ops.size).any fun j => decide (i < j) && ((ops[j]?).map fun o => o.after.any fun e => Region.binds .any e && (e.on == i)).getD false
def backward (ops : Array Oper) : Bool := (List.range ops.size).all fun i => ((ops[i]?).map fun o => o.after.all fun e => !Region.binds .any e || decide (e.on < i)).getD true
def Closed (ops : Array Oper) (listed : Array Bool) : Prop := ∀ i o, ops[i]? = some o -> listed.getD i false = true -> ∀ e ∈ o.after, Region.binds .any e = true -> listed.getD e.on false = true
section
variable {P : Program} {ops ops' : Array Oper} {C : World -> Prop}
theorem Closed.step {listed : Array Bool} {i : Nat} (h : Closed ops listed) (hi : i ∈ Region.ready .any ops listed) : Closed ops (listed.setIfInBounds i true) := by
  obtain ⟨-, o, ho, hall⟩ := mem_ready.1 hi;intro j oj hj hl e he hb;by_cases hij : i = j
  · subst hij
    rw [ho] at hj; obtain rfl := Option.some.inj hj
    exact getD_set_true (hall e he hb)
  · rw [getD_set_ne false hij] at hl
    exact getD_set_true (h j oj hj hl e he hb)
theorem inBounds {listed : Array Bool} {i : Nat} (h : i < listed.size) (b : Bool) : listed.getD i b = listed.getD i false := by
  simp [h]
theorem ready_some {listed : Array Bool} (hsz : listed.size = ops.size) (hb : backward ops = true) : ∀ (m i : Nat), i < m -> i < ops.size -> listed.getD i false = false -> ∃ j, j ∈ Region.ready .any ops listed
  | 0, i, hm, _, _ => by omega
  | m + 1, i, hm, hi, hu => by
    obtain ⟨o, ho⟩ : ∃ o, ops[i]? = some o := ⟨_, Array.getElem?_eq_getElem hi⟩;by_cases hall : ∀ e ∈ o.after, Region.binds .any e = true -> listed.getD e.on false = true
    · exact ⟨i, mem_ready.2 ⟨by rw [inBounds (by omega)]; exact hu, o, ho, hall⟩⟩
    · simp only [Classical.not_forall] at hall
      obtain ⟨e, he, hbe, hne⟩ := hall;have h1 := (List.all_eq_true.1 hb) i (List.mem_range.2 hi);rw [ho] at h1;simp only [Option.map_some, Option.getD_some] at h1;have h2 := (Array.all_eq_true_iff_forall_mem.1 h1) e he;rw [hbe] at h2;simp only [Bool.not_true, Bool.false_or, decide_eq_true_eq] at h2;exact ready_some hsz hb m e.on (by omega) (by omega) (by simpa using hne)
theorem last_ready {listed : Array Bool} {s : Nat} (hs : s + 1 = ops.size) (hf : feeds ops = true) (hc : Closed ops listed) (hr : s ∈ Region.ready .any ops listed) : ∀ (m i : Nat), s - i < m -> i < s -> listed.getD i false = true
  | 0, i, hm, _ => by omega
  | m + 1, i, hm, hi => by
    have h1 := (List.all_eq_true.1 hf) i (List.mem_range.2 (by omega));obtain ⟨j, hj, h2⟩ := List.any_eq_true.1 h1;simp only [Bool.and_eq_true, decide_eq_true_eq] at h2;have hjs := List.mem_range.1 hj;obtain ⟨o, ho⟩ : ∃ o, ops[j]? = some o := ⟨_, Array.getElem?_eq_getElem hjs⟩;obtain ⟨hij, h3⟩ := h2;rw [ho] at h3;simp only [Option.map_some, Option.getD_some] at h3;obtain ⟨e, he, h4⟩ := Array.any_eq_true'.1 h3;simp only [Bool.and_eq_true, beq_iff_eq] at h4;obtain ⟨hb, rfl⟩ := h4;by_cases hjs' : j = s
    · subst hjs'
      obtain ⟨-, o', ho', hall⟩ := mem_ready.1 hr;rw [ho] at ho'; obtain rfl := Option.some.inj ho'
      exact hall e he hb
    · exact hc j o ho (last_ready hs hf hc hr m j (by omega) (by omega)) e he hb
theorem put_put (a : Act) (d : Option Tmp) (u v : Value) : (a.put d u).put d v = a.put d v := by
  cases d with
  | none => rfl
  | some d => simp [Act.put]
def LastAt (P : Program) (o : Oper) (Q : Exit -> Act -> World -> Prop) (a : Act) (w : World) : Prop :=
  ∃ f args, (execOp a.eval o).run P w = .ok (.enter f args) w /\ Calls P f args w (fun e w'' => ∃ v, e = .returned v /\ Q .normal (a.put o.dst v) w'')
theorem wpAny_of_last {s : Nat} {o o' : Oper} (hsz : ops'.size = ops.size) (hs : s + 1 = ops.size) (heq : ∀ i, i ≠ s -> ops'[i]? = ops[i]?) (ho : ops[s]? = some o) (ho' : ops'[s]? = some o')
    (haf : o'.after = o.after) (hdst : o'.dst = o.dst) (hg : o.guard = none) (hg' : o'.guard = none) (hlook : ∀ d, o.dst = some d -> d ∉ o.looksAt ops) (hsel : ∀ cs b, o.op ≠ .select cs b)
    (hf : feeds ops = true) (hb : backward ops = true) {Q : Exit -> Act -> World -> Prop} :
    ∀ (fuel : Nat) (listed : Array Bool) (a : Act) (w : World), listed.size = ops.size -> Closed ops listed -> listed.getD s false = false -> C w ->
      wpAnyQ P .any ops' C (fun a' => ∀ w', C w' -> LastAt P o Q a' w') fuel listed a -> wpAny P .any ops Q fuel listed a w := by
  have hy : ∀ t, yielded ops' t = yielded ops t := by
    intro t; funext j
    unfold yielded
    by_cases hj : j = s
    · subst hj; rw [ho, ho']; simp [hdst]
    · rw [heq j hj]
  have hready : ∀ listed, Region.ready .any ops' listed = Region.ready .any ops listed := by
    intro listed;unfold Region.ready
    rw [hsz];congr 1; funext i
    by_cases hi : i = s
    · subst hi; rw [ho, ho']; simp [haf]
    · rw [heq i hi]
  intro fuel;induction fuel with
  | zero =>
    intro listed a w hl hc hu hw h;obtain ⟨j, hj⟩ := ready_some hl hb (s + 1) s (by omega) (by omega) hu;rw [<- hready, h.1] at hj; cases hj
  | succ fuel ih =>
    intro listed a w hl hc hu hw h;obtain ⟨j, hj⟩ := ready_some hl hb (s + 1) s (by omega) (by omega) hu;refine ⟨fun h0 => absurd hj (by rw [h0]; exact List.not_mem_nil), fun i hi => ?_⟩;have hq := h.2 i (by rw [hready]; exact hi);by_cases his : i = s
    · subst his
      have hall := last_ready hs hf hc hi
      have hnone : Region.ready .any ops (listed.setIfInBounds i true) = [] := by
        rw [List.eq_nil_iff_forall_not_mem];intro k hk;obtain ⟨h1, ok, hok, -⟩ := mem_ready.1 hk;have hks := (Array.getElem?_eq_some_iff.1 hok).1;by_cases hki : k = i
        · subst hki
          simp [hl, hks] at h1
        · rw [getD_set_ne true (Ne.symm hki), inBounds (by omega), hall (i + 1) k (by omega) (by omega)] at h1
          cases h1
      unfold qOp at hq
      simp only [ho', Region.wanted, hg', if_true] at hq;obtain ⟨u, -, hn⟩ := hq
      have hQ : ∀ w', C w' -> LastAt P o Q (a.put o'.dst u) w' := by
        cases fuel with
        | zero => exact hn.2
        | succ fuel => exact hn.1 (by rw [hready]; exact hnone)
      obtain ⟨f, args, hrun, hcall⟩ := hQ w hw;rw [hdst, execOp_put (ops := ops) o hsel a o.dst u hlook] at hrun;unfold wpOp
      simp only [ho, Region.wanted, hg, if_true];refine .inl ?_;unfold Oper.wp
      rw [hrun];simp only [Oper.upon];refine hcall.mono ?_;rintro e w'' ⟨v, rfl, hv⟩;rw [hdst, put_put] at hv;cases fuel with
      | zero => exact ⟨hnone, hv⟩
      | succ fuel => exact ⟨fun _ => hv, fun k hk => by rw [hnone] at hk; cases hk⟩
    · have h1 := wpOp_of_qOp (K' := wpAny P .any ops Q fuel (listed.setIfInBounds i true)) (Q' := Q) hw (fun a' w' hw' hh => ih _ a' w' (by simp [hl]) (hc.step hi) (by rw [getD_set_ne false his]; exact hu) hw' hh) hq
      unfold wpOp at h1 ⊢
      rw [heq i his, hy] at h1;exact h1
def tameLast (l : List Oper) (o : Oper) : List Oper := l.dropLast ++ [{ o with op := .move (.const undef) }]
theorem wp_region_last {id : Nat} {Q : Exit -> Act -> World -> Prop} {a : Act} {w : World} {l : List Oper} {o : Oper} (hm : P.follows .mixedOrders = true) (hlast : l.getLast? = some o)
    (hg : o.guard = none) (hlook : (match o.dst with | some d => !(o.looksAt l.toArray).contains d | none => true) = true) (hsel : ∀ cs b, o.op ≠ .select cs b)
    (hB : Region.lexB .any (tameLast l o).toArray = true) (hf : feeds l.toArray = true) (hb : backward l.toArray = true) (hC : C { w with drawn := w.drawn + 1 })
    (h : wpQuiet P (tameLast l o).toArray C (fun a' => ∀ w', C w' -> LastAt P o Q a' w') (tameLast l o) a) : (Code.region id l.toArray true).wp P Q a w := by
  obtain ⟨l0, hl0⟩ : ∃ l0, l = l0 ++ [o] := by
    rcases List.eq_nil_or_concat l with rfl | ⟨l0, x, rfl⟩
    · simp at hlast
    · simp at hlast; subst hlast; exact ⟨l0, by simp⟩
  have ht : tameLast l o = l0 ++ [{ o with op := .move (.const undef) }] := by unfold tameLast; rw [hl0]; simp
  rw [ht] at h hB;simp only [Region.lexB, Bool.and_eq_true] at hB;have hq := wpAnyQ_lex (C := C) (md := .any) (P := P) hB.1 _ 0 (Array.replicate (l0 ++ [{ o with op := .move (.const undef) }]).toArray.size false) a (by simp) (by simpa using hB.2) h;refine wp_region_any hm (wpAny_of_last (ops' := (l0 ++ [{ o with op := .move (.const undef) }]).toArray) (s := l0.length) (o := o) (o' := { o with op := .move (.const undef) }) (C := C) ?_ ?_ ?_ ?_ ?_ rfl rfl hg hg ?_ hsel hf hb _ _ _ _ ?_ ?_ ?_ hC ?_)
  · rw [hl0]; simp
  · rw [hl0]; simp
  · intro i hi
    rw [hl0];simp only [List.getElem?_toArray];rcases Nat.lt_or_ge i l0.length with h1 | h1
    · rw [List.getElem?_append_left h1, List.getElem?_append_left h1]
    · rw [List.getElem?_eq_none (by simp; omega), List.getElem?_eq_none (by simp; omega)]
  · rw [hl0]; simp
  · simp
  · intro d hd
    rw [hd] at hlook;simpa using hlook
  · simp
  · intro i oi _ hl
    exfalso
    rcases Nat.lt_or_ge i l.toArray.size with hi | hi
    · simp at hi; simp [hi] at hl
    · simp at hi; simp [Nat.not_lt.2 hi] at hl
  · have : l0.length < l.length := by rw [hl0]; simp
    simp [this]
  · have e : l.toArray.size = (l0 ++ [{ o with op := .move (.const undef) }]).length := by rw [hl0]; simp
    have e2 : (l0 ++ [{ o with op := Op.move (.const undef) }]).toArray.size = l.toArray.size := by rw [e]; simp
    rw [e2] at hq;rw [e, <- e];rw [<- e] at hq;exact hq
end
end Go.Proofs.YteecgiebimdbhaaGreatDoor
namespace Go.Proofs.YteecgiebimdbhaaGreatDoor
open Go.RowKit
open Go.Sort
open M
theorem read_no {S : Toks} {f d n i c b : Nat} {q : Bool} (hq : mustB b (begunK (kAt S b i) (tAt S b i) != 0) 2 = 0 -> q = (decide ((d : Int) <= 32) && (decide (((c + 1 : Nat) : Int) <= 500) && decide ((n : Int) <= 20))))
    (h : mustB (mustB b (begunK (kAt S b i) (tAt S b i) != 0) 2) q 3 ≠ 0) (t : Ty) (j : Nat) : badR (mustB (mustB b (begunK (kAt S b i) (tAt S b i) != 0) 2) q 3) i (.ok t i j) = badR b i (readR S (f + 1) d n i c) := by
  by_cases hb : b = 0
  rotate_left
  · rw [mustB_bad _ _ hb, mustB_bad _ _ hb, badR_ne _ _ hb, badR_ne _ _ hb]
  subst hb;rw [badR_ne _ _ h, badR_0];unfold readR
  by_cases hbg : S.begins i = true
  · have hi := begins_lt hbg
    have e1 : kAt S 0 i = S.K i := if_pos ⟨rfl, hi⟩;have e2 : tAt S 0 i = S.T i := if_pos ⟨rfl, hi⟩
    have hk : (begunK (kAt S 0 i) (tAt S 0 i) != 0) = true := by
      rw [e1, e2]; rw [begins_iff S hi] at hbg; simpa using hbg
    rw [hk, mustB_yes] at hq h ⊢
    have hqf : q = false := by
      cases q with
      | true => rw [mustB_yes] at h; exact absurd rfl h
      | false => rfl
    subst hqf;rw [mustB_no];have := hq rfl
    by_cases hn : 20 < n
    · rw [if_pos ⟨hbg, hn⟩]
    · rw [if_neg (fun x => hn x.2), pT_eq, if_neg (by rw [hbg]; decide), if_pos]
      have hn' : decide ((n : Int) <= 20) = true := by simp; omega
      rw [hn'] at this;simp at this;omega
  · have hbg' : S.begins i = false := by simpa using hbg
    rw [if_neg (fun x => hbg x.1), pT_eq, if_pos hbg']
    have hk : (begunK (kAt S 0 i) (tAt S 0 i) != 0) = false := by
      by_cases hi : i < S.n
      · have e1 : kAt S 0 i = S.K i := if_pos ⟨rfl, hi⟩
        have e2 : tAt S 0 i = S.T i := if_pos ⟨rfl, hi⟩;rw [e1, e2]; rw [begins_iff S hi] at hbg'; simpa using hbg'
      · have e1 : kAt S 0 i = 0 := if_neg (fun x => hi x.2)
        have e2 : tAt S 0 i = ⟨#[]⟩ := if_neg (fun x => hi x.2);rw [e1, e2]; decide
    rw [hk, mustB_no, mustB_bad _ _ (by decide)]
theorem read_yes {S : Toks} {f d n i c b : Nat} {q : Bool} (hq : mustB b (begunK (kAt S b i) (tAt S b i) != 0) 2 = 0 -> q = (decide ((d : Int) <= 32) && (decide (((c + 1 : Nat) : Int) <= 500) && decide ((n : Int) <= 20))))
    (h : mustB (mustB b (begunK (kAt S b i) (tAt S b i) != 0) 2) q 3 = 0) : b = 0 /\ i < S.n /\ S.begins i = true /\ d <= 32 /\ c + 1 <= 500 /\ n <= 20 /\ badR b i (readR S (f + 1) d n i c) = kindR S f d i c (begunK (kAt S b i) (tAt S b i)) := by
  by_cases hb : b = 0
  rotate_left
  · rw [mustB_bad _ _ hb, mustB_bad _ _ hb] at h; exact absurd h hb
  subst hb;cases hk : (begunK (kAt S 0 i) (tAt S 0 i) != 0) with
  | false => rw [hk, mustB_no, mustB_bad _ _ (by decide)] at h; cases h
  | true =>
    rw [hk, mustB_yes] at hq h
    have hqt : q = true := by
      cases q with
      | true => rfl
      | false => cases h
    have hq' := hq rfl
    rw [hqt] at hq';have h3 : (d : Int) <= 32 /\ ((c + 1 : Nat) : Int) <= 500 /\ (n : Int) <= 20 := by simpa using hq'.symm
    have hi : i < S.n := by
      by_cases hi : i < S.n
      · exact hi
      · have e1 : kAt S 0 i = 0 := if_neg (fun x => hi x.2)
        have e2 : tAt S 0 i = ⟨#[]⟩ := if_neg (fun x => hi x.2);rw [e1, e2] at hk; exact absurd hk (by decide)
    have e1 : kAt S 0 i = S.K i := if_pos ⟨rfl, hi⟩;have e2 : tAt S 0 i = S.T i := if_pos ⟨rfl, hi⟩;have hbg : S.begins i = true := by rw [begins_iff S hi, <- e1, <- e2]; simpa using hk
    refine ⟨rfl, hi, hbg, by omega, by omega, by omega, ?_⟩;rw [badR_0, e1, e2];unfold readR
    rw [if_neg (by omega), pT_eq, if_neg (by rw [hbg]; decide), if_neg (by omega), rest_kind S hi hbg]
def cuM (q n : Nat) (w : World) : Nat :=
  match w.heap[q]? with
  | some (Obj.cells cs _ _) => (match cs[1]?, cs[2]? with
    | some (Value.int _ i), some Value.nilIface => n + 3 - i.toNat + 1
    | _, _ => 0)
  | _ => 0
theorem CSt.m {q : Nat} {A : Option Addr} {n cn i b : Nat} {w : World} (h : CSt q A n cn i b w) : cuM q n w = if b = 0 then n + 3 - i + 1 else 0 := by
  unfold cuM
  rcases h with ⟨rfl, h⟩ | ⟨hb, x, g, h, -⟩
  · unfold CGd at h
    rw [h]; simp
  · rw [h, if_neg hb]; simp
def contR (S : Toks) (f d i c : Nat) (ss : List Ty) : Res Ty := if S.sign i [41] = true then pEnd S f d (i + 1) c ss else if S.sign i [44] = false then .err 2 i else pSubs S f d (i + 1) c ss
structure CpI (w : World) (cu r : Nat) (A : Option Addr) (S : Toks) (cn d f : Nat) (F : Res Ty) (ss : List Ty) (n6 : Nat) (A6 : Option Addr) (c6 i c b g : Nat) (wr : World) : Prop where
  kp : KQ cu r w wr
  rows : GrR w.heap.size [] 0 ss n6 (.slice none 0 0) (.slice A6 n6 c6) wr
  rd : RSt cu r A S.n cn i c b wr
  fin : F = badR b i (contR S g d i c ss)
  fuel : g <= f
  some : n6 <= 21
  most : b = 0 -> n6 <= 20
  cnt : c <= 500
structure FnJ (w : World) (cu r : Nat) (A : Option Addr) (S : Toks) (cn d f : Nat) (F : Res Ty) (ss : List Ty) (n6 : Nat) (A6 : Option Addr) (c6 i c b g : Nat) (wr : World) : Prop where
  kp : KQ cu r w wr
  box : Bx w.heap.size wr
  rows : GrR (w.heap.size + 1) [] 0 ss n6 (.slice none 0 0) (.slice A6 n6 c6) wr
  rd : RSt cu r A S.n cn i c b wr
  fin : F = badR b i (pEnd S g d i c ss)
  fuel : g <= f
  some : n6 <= 21
  cnt : c <= 500
structure Nv where
  s : ByteArray
  k : Int
  p : ByteArray
  m : Int
  d : ByteArray
  n : ByteArray
  A5 : Option Addr
  n5 : Nat
  c5 : Nat
  A6 : Option Addr
  n6 : Nat
  c6 : Nat
instance : Inhabited Nv := ⟨⟨⟨#[]⟩, 0, ⟨#[]⟩, 0, ⟨#[]⟩, ⟨#[]⟩, none, 0, 0, none, 0, 0⟩⟩
def Nv.ty (x : Nv) : List Value := [.int .i64 x.k, .string x.p, .int .i64 x.m, .string x.d, .string x.n, .slice x.A5 x.n5 x.c5, .slice x.A6 x.n6 x.c6]
def Nv.enc (x : Nv) : List Value := [.string x.s, .int .i64 x.k, .string x.p, .int .i64 x.m, .string x.d, .string x.n, .slice x.A5 x.n5 x.c5, .slice x.A6 x.n6 x.c6]
abbrev Nt := Nv × Ty
def rowN (P : List Nt) : List Value := (P.map (fun x => x.1.enc)).flatten
def fdOf (P : List Nt) : List FdT := P.map (fun x => (x.1.s, x.2))
structure NmR (lo : Nat) (P : List Nt) (n : Nat) (v : Value) (w : World) : Prop where
  len : P.length = n
  own : w.ownsRow lo 57 8 v n (rowN P)
  szs : ∀ x, x ∈ P -> x.1.s.size <= 281474976710656
  trees : ∀ x, x ∈ P -> TyAt (strike (fun b => b < lo \/ v.ownBlock = some b) w) x.1.ty x.2
structure FdAt (S : Toks) (k : Int) (i b n : Nat) (ns : List ByteArray) (q1 tw : Bool) (b3 : Nat) (s : ByteArray) (i4 b4 i5 b5 : Nat) : Prop where
  len : ns.length = n
  is : b = 0 -> q1 = S.nameOk k i
  two : b = 0 -> i < S.n -> tw = twice (S.T i) ns
  must : b3 = mustB (mustB (mustB b q1 2) (decide ((n : Int) < 20)) 3) (!tw) 5
  word : NameOut S (S.nameOk k i) i b3 s i4 b4
  i5e : psI b4 (S.sign i4 [58]) i4 = i5
  b5e : psB b4 (S.sign i4 [58]) = b5
def contP (S : Toks) (k : Int) (z : List UInt8) (g d i c : Nat) (P : List FdT) : Res Ty :=
  if S.sign i z = true then .ok (Ty.mk k ⟨#[]⟩ 0 ⟨#[]⟩ ⟨#[]⟩ (insN P) (insS P)) (i + 1) c else if S.sign i [44] = false then .err 2 i else pParts S k z g d (i + 1) c (insN P) (insS P)
structure CfI (w : World) (cu r : Nat) (A : Option Addr) (S : Toks) (cn : Nat) (k : Int) (z : List UInt8) (d f : Nat) (F : Res Ty) (P : List Nt) (n : Nat) (v : Value) (i c b g : Nat) (wr : World) : Prop where
  kp : KQ cu r w wr
  rows : NmR w.heap.size P n v wr
  rd : RSt cu r A S.n cn i c b wr
  fin : F = badR b i (contP S k z g d i c (fdOf P))
  fuel : g <= f
  some : n <= 21
  most : b = 0 -> n <= 20
  cnt : c <= 500
  apart : b = 0 -> ((fdOf P).map (·.1)).Nodup
end Go.Proofs.YteecgiebimdbhaaGreatDoor
namespace Go.Proofs
open Go.Shelf
def Tryz.sortNamed_ren : Go.Shelf.Ren := ⟨fun | 6 => 264 | 15 => 274 | 14 => 283 | 28 => 297 | 29 => 221 | 20 => 302 | 21 => 303 | 22 => 304 | 23 => 305 | 24 => 306 | 25 => 307 | 26 => 308 | 27 => 309 | 46 => 317 | 47 => 312 | 48 => 313 | 49 => 318 | 50 => 319 | 57 => 321 | n => n, fun | 22 => 48 | 24 => 57 | 25 => 308 | 3 => 3 | 39 => 268 | 0 => 0 | 53 => 265 | 55 => 237 | 4 => 4 | 46 => 336 | 45 => 335 | 50 => 321 | 5 => 5 | 9 => 9 | 66 => 350 | 70 => 205 | 76 => 357 | 77 => 43 | n => n, fun | n => n⟩
theorem Tryz.sortNamed : Go.Proofs.SlLaysF0.n6 Tryz.prog Tryz.sortNamed_ren := {
  mixed := by kernel_rfl
  f6 := ⟨Tryz.f264.name, by decide, Tryz.func264.trans (congrArg some (by kernel_rfl))⟩
  f14 := ⟨Tryz.f283.name, by decide, Tryz.func283.trans (congrArg some (by kernel_rfl))⟩
  f15 := Tryz.func274.trans (congrArg some (by kernel_rfl))
  f20 := ⟨Tryz.f302.name, by decide, Tryz.func302.trans (congrArg some (by kernel_rfl))⟩
  f21 := ⟨Tryz.f303.name, by decide, Tryz.func303.trans (congrArg some (by kernel_rfl))⟩
  f22 := ⟨Tryz.f304.name, by decide, Tryz.func304.trans (congrArg some (by kernel_rfl))⟩
  f23 := ⟨Tryz.f305.name, by decide, Tryz.func305.trans (congrArg some (by kernel_rfl))⟩
  f24 := ⟨Tryz.f306.name, by decide, Tryz.func306.trans (congrArg some (by kernel_rfl))⟩
  f25 := ⟨Tryz.f307.name, by decide, Tryz.func307.trans (congrArg some (by kernel_rfl))⟩
  f26 := ⟨Tryz.f308.name, by decide, Tryz.func308.trans (congrArg some (by kernel_rfl))⟩
  f27 := ⟨Tryz.f309.name, by decide, Tryz.func309.trans (congrArg some (by kernel_rfl))⟩
  f28 := Tryz.func297.trans (congrArg some (by kernel_rfl))
  f29 := Tryz.func221.trans (congrArg some (by kernel_rfl))
  f46 := ⟨Tryz.f317.name, by decide, Tryz.func317.trans (congrArg some (by kernel_rfl))⟩
  f47 := Tryz.func312.trans (congrArg some (by kernel_rfl))
  f48 := Tryz.func313.trans (congrArg some (by kernel_rfl))
  f49 := ⟨Tryz.f318.name, by decide, Tryz.func318.trans (congrArg some (by kernel_rfl))⟩
  f50 := ⟨Tryz.f319.name, by decide, Tryz.func319.trans (congrArg some (by kernel_rfl))⟩
  f57 := ⟨Tryz.f321.name, by decide, Tryz.func321.trans (congrArg some (by kernel_rfl))⟩
  t0 := Tryz.underlying0
  a0 := Tryz.isAgg0
  z0 := Tryz.sizeOf0
  v0 := Tryz.zeroValue0
  t3 := Tryz.underlying3
  a3 := Tryz.isAgg3
  z3 := Tryz.sizeOf3
  v3 := Tryz.zeroValue3
  t4 := Tryz.underlying4
  a4 := Tryz.isAgg4
  z4 := Tryz.sizeOf4
  v4 := Tryz.zeroValue4
  t5 := Tryz.underlying5
  a5 := Tryz.isAgg5
  z5 := Tryz.sizeOf5
  v5 := Tryz.zeroValue5
  t9 := Tryz.underlying9
  a9 := Tryz.isAgg9
  z9 := Tryz.sizeOf9
  v9 := Tryz.zeroValue9
  t22 := Tryz.underlying48
  a22 := Tryz.isAgg48
  z22 := Tryz.sizeOf48
  v22 := Tryz.zeroValue48
  t25 := Tryz.underlying308
  a25 := Tryz.isAgg308
  z25 := Tryz.sizeOf308
  v25 := Tryz.zeroValue308
  t39 := Tryz.underlying268
  a39 := Tryz.isAgg268
  z39 := Tryz.sizeOf268
  v39 := Tryz.zeroValue268
  t45 := Tryz.underlying335
  a45 := Tryz.isAgg335
  z45 := Tryz.sizeOf335
  v45 := Tryz.zeroValue335
  t46 := Tryz.underlying336
  a46 := Tryz.isAgg336
  z46 := Tryz.sizeOf336
  v46 := Tryz.zeroValue336
  t50 := Tryz.underlying321
  a50 := Tryz.isAgg321
  z50 := Tryz.sizeOf321
  v50 := Tryz.zeroValue321
  t53 := Tryz.underlying265
  a53 := Tryz.isAgg265
  z53 := Tryz.sizeOf265
  v53 := Tryz.zeroValue265
  t55 := Tryz.underlying237
  a55 := Tryz.isAgg237
  z55 := Tryz.sizeOf237
  v55 := Tryz.zeroValue237
  t66 := Tryz.underlying350
  a66 := Tryz.isAgg350
  z66 := Tryz.sizeOf350
  v66 := Tryz.zeroValue350
  t70 := Tryz.underlying205
  a70 := Tryz.isAgg205
  z70 := Tryz.sizeOf205
  v70 := Tryz.zeroValue205
  t76 := Tryz.underlying357
  a76 := Tryz.isAgg357
  z76 := Tryz.sizeOf357
  v76 := Tryz.zeroValue357
  t77 := Tryz.underlying43
  a77 := Tryz.isAgg43
  z77 := Tryz.sizeOf43
  v77 := Tryz.zeroValue43 }
end Go.Proofs
namespace Go.Proofs.YteecgiebimdbhaaGreatDoor
open Go.RowKit
open Go.Sort
open M
structure OfI (w : World) (B g : Nat) (k : Int) (P : List Nt) (j5 j6 : Nat) (A5 : Option Addr) (c5 : Nat) (A6 : Option Addr) (c6 : Nat) (wr : World) : Prop where
  gr : w.grownBy wr (some g)
  row : ∀ i x, P[i]? = some x -> ∀ q u, x.1.enc[q]? = some u -> wr.cell? ⟨g, 0 + i * 8 + q, none⟩ = some u
  box : wr.heap[B]? = some (.cells #[.int .i64 k, .string ⟨#[]⟩, .int .i64 0, .string ⟨#[]⟩, .string ⟨#[]⟩, .slice A5 j5 c5, .slice A6 j6 c6] 55 (0, 0))
  res : Bx w.heap.size wr
  names : wr.ownsRow (B + 1) 9 1 (.slice A5 j5 c5) j5 ((P.take j5).map fun x => .string x.1.s)
  subs : wr.ownsRow (B + 1) 55 7 (.slice A6 j6 c6) j6 ((P.take j6).map fun x => x.1.ty).flatten
  apart : ∀ b, (Value.slice A5 j5 c5).ownBlock = some b -> (Value.slice A6 j6 c6).ownBlock ≠ some b
  gB : g < w.heap.size /\ w.heap.size < B
section
variable {P : Program}
theorem results_three {fn : Func} {p u u2 : Tmp} {ty : TypeId} (h : fn.results = #[.cell p ty, .tmp u, .tmp u2]) (tmps : Array Value) (w : World) :
    (results fn tmps).run P w = ((asAddr (tmps.getD p undef)).run P w).andThen fun a w₁ => ((loadVar ty a).run P w₁).andThen fun v w₂ => .ok (.tuple #[v, tmps.getD u undef, tmps.getD u2 undef]) w₂ := by
  simp only [results, h];simp [Sem.run_bind, Result.andThen]
theorem ret_agg3 {fn : Func} {R : Ending -> World -> Prop} {a : Act} {w : World} {p u u2 : Tmp} {ty : TypeId} {ds : Array Field} {vs : List Value} {b : Nat} {x y : Value}
    (h : fn.results = #[.cell p ty, .tmp u, .tmp u2]) (hp : a.tmps.getD p undef = .pointer (some ⟨b, 0, none⟩)) (hx : a.tmps.getD u undef = x) (hy : a.tmps.getD u2 undef = y)
    (hty : P.underlying ty = some (.struct ds)) (hi : (P.info? ty).map (·.size) = some vs.length) (hc : ∀ i v, vs[i]? = some v -> w.cell? ⟨b, i, none⟩ = some v)
    (hd : a.defers = []) (hR : R (.returned (.tuple #[.agg vs.toArray, x, y])) w) : bodyPost P fn R .ret a w := by
  refine bodyPost_ret (v := .tuple #[.agg vs.toArray, x, y]) ?_ hd hR;rw [results_three h, hp, hx, hy];simp [asAddr, Result.andThen, run_loadVar_struct w b ty vs ds hty hi hc, Sem.run_pure]
end
def SpAt (g : Nat) (x : Int) (b : Nat) (w : World) : Prop := w.heap[g]? = some (.cells #[.int .i64 x, .iface 32 (.int .i64 b)] 94 (0, 0))
def atR (S : Toks) (i : Nat) : Res Ty := pT S (2 * S.n + 3) 1 i 0
theorem atR_far (S : Toks) (i : Nat) : ∀ j, atR S i ≠ .err 99 j := fun j e => by
  have := (steps S (2 * S.n + 3)).1 1 i 0 (by omega)
  unfold atR at e
  rw [e] at this;exact this rfl
theorem new_any (A : Option Addr) (n cn i : Nat) (w : World) : Calls Tryz.prog 66 #[.slice A n cn, .int .i64 i] w fun e w' => e = .returned (.pointer (some ⟨w.heap.size, 0, none⟩)) /\ w' = w.alloc (.cells #[.slice A n cn, .int .i64 i, .nilIface] 114) := by
  go_enter Tryz.func66, Tryz.ntmps66
  go_wp2_with fail
  go_ret;exact ⟨rfl, rfl⟩
theorem setRow_below {w wk : World} (h : Below w.heap.size w wk) {b : Nat} (hb : w.heap.size <= b) (vs : Array Value) : Below w.heap.size w (wk.setRow b vs) :=
  ⟨h.os, h.tape, h.output, by have := h.size; simpa using this, fun j hj => (setRow_other wk b j _ (by omega)).trans (h.block j hj)⟩
def AtOut (w : World) (S : Toks) (i : Nat) (e : Ending) (w' : World) : Prop :=
  Below w.heap.size w w' /\
  ((∃ (l : List Value) (t : Ty) (j c : Nat), atR S i = .ok t j c /\ e = .returned (.tuple #[.agg l.toArray, .int .i64 j, .nilIface]) /\ TyAt (strike (· < w.heap.size) w') l t) \/
   (∃ (b j g : Nat), atR S i = .err b j /\ b ≠ 0 /\ e = .returned (.tuple #[.agg #[.int .i64 0, .string ⟨#[]⟩, .int .i64 0, .string ⟨#[]⟩, .string ⟨#[]⟩, .slice none 0 0, .slice none 0 0], .int .i64 0, .iface 89 (.pointer (some ⟨g, 0, none⟩))]) /\ SpAt g j b w'))
end Go.Proofs.YteecgiebimdbhaaGreatDoor
