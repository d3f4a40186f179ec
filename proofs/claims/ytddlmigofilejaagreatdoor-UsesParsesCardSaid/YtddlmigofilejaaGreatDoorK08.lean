/-
  Several texts in one.
-/
import Derived.Test.YtddlmigofilejaaGreatDoorK07
set_option maxRecDepth 100000
set_option maxHeartbeats 40000000
namespace Go.Proofs.YtddlmigofilejaaGreatDoor
open Go Go.Sort Go.RowKit
def feeds (ops : Array Oper) : Bool := (List.range (ops.size - 1)).all fun i => (List.range ops.size).any fun j => decide (i < j) && ((ops[j]?).map fun o => o.after.any fun e => Region.binds .any e && (e.on == i)).getD false
def backward (ops : Array Oper) : Bool := (List.range ops.size).all fun i => ((ops[i]?).map fun o => o.after.all fun e => !Region.binds .any e || decide (e.on < i)).getD true
def Closed (ops : Array Oper) (listed : Array Bool) : Prop := ∀ i o, ops[i]? = some o -> listed.getD i false = true -> ∀ e ∈ o.after, Region.binds .any e = true -> listed.getD e.on false = true
section
variable {P : Program} {ops ops' : Array Oper} {C : World -> Prop}
theorem Closed.step {listed : Array Bool} {i : Nat} (h : Closed ops listed) (hi : i ∈ Region.ready .any ops listed) : Closed ops (listed.setIfInBounds i true) := by
  obtain ⟨-, o, ho, hall⟩ := mem_ready.1 hi;intro j oj hj hl e he hb;by_cases hij : i = j
  · subst hij
    rw [ho] at hj; obtain rfl := Option.some.inj hj
    exact getD_set_true (hall e he hb)
  · rw [getD_set_ne false hij] at hl
    exact getD_set_true (h j oj hj hl e he hb)
theorem inBounds {listed : Array Bool} {i : Nat} (h : i < listed.size) (b : Bool) : listed.getD i b = listed.getD i false := by
  simp [h]
theorem ready_some {listed : Array Bool} (hsz : listed.size = ops.size) (hb : backward ops = true) : ∀ (m i : Nat), i < m -> i < ops.size -> listed.getD i false = false -> ∃ j, j ∈ Region.ready .any ops listed
  | 0, i, hm, _, _ => by omega
  | m + 1, i, hm, hi, hu => by
    obtain ⟨o, ho⟩ : ∃ o, ops[i]? = some o := ⟨_, Array.getElem?_eq_getElem hi⟩;by_cases hall : ∀ e ∈ o.after, Region.binds .any e = true -> listed.getD e.on false = true
    · exact ⟨i, mem_ready.2 ⟨by rw [inBounds (by omega)]; exact hu, o, ho, hall⟩⟩
    · simp only [Classical.not_forall] at hall
      obtain ⟨e, he, hbe, hne⟩ := hall;have h1 := (List.all_eq_true.1 hb) i (List.mem_range.2 hi);rw [ho] at h1;simp only [Option.map_some, Option.getD_some] at h1;have h2 := (Array.all_eq_true_iff_forall_mem.1 h1) e he;rw [hbe] at h2;simp only [Bool.not_true, Bool.false_or, decide_eq_true_eq] at h2;exact ready_some hsz hb m e.on (by omega) (by omega) (by simpa using hne)
theorem last_ready {listed : Array Bool} {s : Nat} (hs : s + 1 = ops.size) (hf : feeds ops = true) (hc : Closed ops listed) (hr : s ∈ Region.ready .any ops listed) : ∀ (m i : Nat), s - i < m -> i < s -> listed.getD i false = true
  | 0, i, hm, _ => by omega
  | m + 1, i, hm, hi => by
    have h1 := (List.all_eq_true.1 hf) i (List.mem_range.2 (by omega));obtain ⟨j, hj, h2⟩ := List.any_eq_true.1 h1;simp only [Bool.and_eq_true, decide_eq_true_eq] at h2;have hjs := List.mem_range.1 hj;obtain ⟨o, ho⟩ : ∃ o, ops[j]? = some o := ⟨_, Array.getElem?_eq_getElem hjs⟩;obtain ⟨hij, h3⟩ := h2;rw [ho] at h3;simp only [Option.map_some, Option.getD_some] at h3;obtain ⟨e, he, h4⟩ := Array.any_eq_true'.1 h3;simp only [Bool.and_eq_true, beq_iff_eq] at h4;obtain ⟨hb, rfl⟩ := h4;by_cases hjs' : j = s
    · subst hjs'
      obtain ⟨-, o', ho', hall⟩ := mem_ready.1 hr;rw [ho] at ho'; obtain rfl := Option.some.inj ho'
      exact hall e he hb
    · exact hc j o ho (last_ready hs hf hc hr m j (by omega) (by omega)) e he hb
theorem put_put (a : Act) (d : Option Tmp) (u v : Value) : (a.put d u).put d v = a.put d v := by
  cases d with
  | none => rfl
  | some d => simp [Act.put]
def LastAt (P : Program) (o : Oper) (Q : Exit -> Act -> World -> Prop) (a : Act) (w : World) : Prop :=
  ∃ f args, (execOp a.eval o).run P w = .ok (.enter f args) w /\ Calls P f args w (fun e w'' => ∃ v, e = .returned v /\ Q .normal (a.put o.dst v) w'')
theorem wpAny_of_last {s : Nat} {o o' : Oper} (hsz : ops'.size = ops.size) (hs : s + 1 = ops.size) (heq : ∀ i, i ≠ s -> ops'[i]? = ops[i]?) (ho : ops[s]? = some o) (ho' : ops'[s]? = some o')
    (haf : o'.after = o.after) (hdst : o'.dst = o.dst) (hg : o.guard = none) (hg' : o'.guard = none) (hlook : ∀ d, o.dst = some d -> d ∉ o.looksAt ops) (hsel : ∀ cs b, o.op ≠ .select cs b)
    (hf : feeds ops = true) (hb : backward ops = true) {Q : Exit -> Act -> World -> Prop} :
    ∀ (fuel : Nat) (listed : Array Bool) (a : Act) (w : World), listed.size = ops.size -> Closed ops listed -> listed.getD s false = false -> C w ->
      wpAnyQ P .any ops' C (fun a' => ∀ w', C w' -> LastAt P o Q a' w') fuel listed a -> wpAny P .any ops Q fuel listed a w := by
  have hy : ∀ t, yielded ops' t = yielded ops t := by
    intro t; funext j
    unfold yielded
    by_cases hj : j = s
    · subst hj; rw [ho, ho']; simp [hdst]
    · rw [heq j hj]
  have hready : ∀ listed, Region.ready .any ops' listed = Region.ready .any ops listed := by
    intro listed;unfold Region.ready
    rw [hsz];congr 1; funext i
    by_cases hi : i = s
    · subst hi; rw [ho, ho']; simp [haf]
    · rw [heq i hi]
  intro fuel;induction fuel with
  | zero =>
    intro listed a w hl hc hu hw h;obtain ⟨j, hj⟩ := ready_some hl hb (s + 1) s (by omega) (by omega) hu;rw [<- hready, h.1] at hj; cases hj
  | succ fuel ih =>
    intro listed a w hl hc hu hw h;obtain ⟨j, hj⟩ := ready_some hl hb (s + 1) s (by omega) (by omega) hu;refine ⟨fun h0 => absurd hj (by rw [h0]; exact List.not_mem_nil), fun i hi => ?_⟩;have hq := h.2 i (by rw [hready]; exact hi);by_cases his : i = s
    · subst his
      have hall := last_ready hs hf hc hi
      have hnone : Region.ready .any ops (listed.setIfInBounds i true) = [] := by
        rw [List.eq_nil_iff_forall_not_mem];intro k hk;obtain ⟨h1, ok, hok, -⟩ := mem_ready.1 hk;have hks := (Array.getElem?_eq_some_iff.1 hok).1;by_cases hki : k = i
        · subst hki
          simp [hl, hks] at h1
        · rw [getD_set_ne true (Ne.symm hki), inBounds (by omega), hall (i + 1) k (by omega) (by omega)] at h1
          cases h1
      unfold qOp at hq
      simp only [ho', Region.wanted, hg', if_true] at hq;obtain ⟨u, -, hn⟩ := hq
      have hQ : ∀ w', C w' -> LastAt P o Q (a.put o'.dst u) w' := by
        cases fuel with
        | zero => exact hn.2
        | succ fuel => exact hn.1 (by rw [hready]; exact hnone)
      obtain ⟨f, args, hrun, hcall⟩ := hQ w hw;rw [hdst, execOp_put (ops := ops) o hsel a o.dst u hlook] at hrun;unfold wpOp
      simp only [ho, Region.wanted, hg, if_true];refine .inl ?_;unfold Oper.wp
      rw [hrun];simp only [Oper.upon];refine hcall.mono ?_;rintro e w'' ⟨v, rfl, hv⟩;rw [hdst, put_put] at hv;cases fuel with
      | zero => exact ⟨hnone, hv⟩
      | succ fuel => exact ⟨fun _ => hv, fun k hk => by rw [hnone] at hk; cases hk⟩
    · have h1 := wpOp_of_qOp (K' := wpAny P .any ops Q fuel (listed.setIfInBounds i true)) (Q' := Q) hw (fun a' w' hw' hh => ih _ a' w' (by simp [hl]) (hc.step hi) (by rw [getD_set_ne false his]; exact hu) hw' hh) hq
      unfold wpOp at h1 ⊢
      rw [heq i his, hy] at h1;exact h1
def tameLast (l : List Oper) (o : Oper) : List Oper := l.dropLast ++ [{ o with op := .move (.const undef) }]
theorem wp_region_last {id : Nat} {Q : Exit -> Act -> World -> Prop} {a : Act} {w : World} {l : List Oper} {o : Oper} (hm : P.follows .mixedOrders = true) (hlast : l.getLast? = some o)
    (hg : o.guard = none) (hlook : (match o.dst with | some d => !(o.looksAt l.toArray).contains d | none => true) = true) (hsel : ∀ cs b, o.op ≠ .select cs b)
    (hB : Region.lexB .any (tameLast l o).toArray = true) (hf : feeds l.toArray = true) (hb : backward l.toArray = true) (hC : C { w with drawn := w.drawn + 1 })
    (h : wpQuiet P (tameLast l o).toArray C (fun a' => ∀ w', C w' -> LastAt P o Q a' w') (tameLast l o) a) : (Code.region id l.toArray true).wp P Q a w := by
  obtain ⟨l0, hl0⟩ : ∃ l0, l = l0 ++ [o] := by
    rcases List.eq_nil_or_concat l with rfl | ⟨l0, x, rfl⟩
    · simp at hlast
    · simp at hlast; subst hlast; exact ⟨l0, by simp⟩
  have ht : tameLast l o = l0 ++ [{ o with op := .move (.const undef) }] := by unfold tameLast; rw [hl0]; simp
  rw [ht] at h hB;simp only [Region.lexB, Bool.and_eq_true] at hB;have hq := wpAnyQ_lex (C := C) (md := .any) (P := P) hB.1 _ 0 (Array.replicate (l0 ++ [{ o with op := .move (.const undef) }]).toArray.size false) a (by simp) (by simpa using hB.2) h;refine wp_region_any hm (wpAny_of_last (ops' := (l0 ++ [{ o with op := .move (.const undef) }]).toArray) (s := l0.length) (o := o) (o' := { o with op := .move (.const undef) }) (C := C) ?_ ?_ ?_ ?_ ?_ rfl rfl hg hg ?_ hsel hf hb _ _ _ _ ?_ ?_ ?_ hC ?_)
  · rw [hl0]; simp
  · rw [hl0]; simp
  · intro i hi
    rw [hl0];simp only [List.getElem?_toArray];rcases Nat.lt_or_ge i l0.length with h1 | h1
    · rw [List.getElem?_append_left h1, List.getElem?_append_left h1]
    · rw [List.getElem?_eq_none (by simp; omega), List.getElem?_eq_none (by simp; omega)]
  · rw [hl0]; simp
  · simp
  · intro d hd
    rw [hd] at hlook;simpa using hlook
  · simp
  · intro i oi _ hl
    exfalso
    rcases Nat.lt_or_ge i l.toArray.size with hi | hi
    · simp at hi; simp [hi] at hl
    · simp at hi; simp [Nat.not_lt.2 hi] at hl
  · have : l0.length < l.length := by rw [hl0]; simp
    simp [this]
  · have e : l.toArray.size = (l0 ++ [{ o with op := .move (.const undef) }]).length := by rw [hl0]; simp
    have e2 : (l0 ++ [{ o with op := Op.move (.const undef) }]).toArray.size = l.toArray.size := by rw [e]; simp
    rw [e2] at hq;rw [e, <- e];rw [<- e] at hq;exact hq
end
end Go.Proofs.YtddlmigofilejaaGreatDoor
namespace Go.Proofs.YtddlmigofilejaaGreatDoor
open Go.RowKit
open Go.Sort
open M
def CKOk (W : World) (cu r : Nat) (A : Option Addr) (S : Toks) (cn : Nat) (fn : Nat) (l : List UInt8) (Rr : Nat -> Nat -> Nat -> Res Ty) : Prop :=
 ∀ (d d' i c : Nat) (w : World) (R : Res Ty), RCtx W cu r A S w -> RSt cu r A S.n cn i c 0 w -> S.sign i l = true -> c <= 500 -> d' = d + 1 -> d' <= 1000000 -> R = Rr d (i + 1) c -> (∀ j, R ≠ .err 99 j) ->
 Calls Tryz.prog fn #[.pointer (some ⟨r, 0, none⟩), .int .i64 d'] w (COut w cu r A S.n cn R)
theorem read_no {S : Toks} {f d n i c b : Nat} {q : Bool} (hq : mustB b (begunK (kAt S b i) (tAt S b i) != 0) 2 = 0 -> q = (decide ((d : Int) <= 32) && (decide (((c + 1 : Nat) : Int) <= 500) && decide ((n : Int) <= 20))))
  (h : mustB (mustB b (begunK (kAt S b i) (tAt S b i) != 0) 2) q 3 ≠ 0) (t : Ty) (j : Nat) : badR (mustB (mustB b (begunK (kAt S b i) (tAt S b i) != 0) 2) q 3) i (.ok t i j) = badR b i (readR S (f + 1) d n i c) := by
 by_cases hb : b = 0
 rotate_left
 ·rw [mustB_bad _ _ hb, mustB_bad _ _ hb, badR_ne _ _ hb, badR_ne _ _ hb]
 subst hb
 rw [badR_ne _ _ h, badR_0]
 unfold readR
 by_cases hbg : S.begins i = true
 ·have hi := begins_lt hbg
  have e1 : kAt S 0 i = S.K i := if_pos ⟨rfl, hi⟩;have e2 : tAt S 0 i = S.T i := if_pos ⟨rfl, hi⟩
  have hk : (begunK (kAt S 0 i) (tAt S 0 i) != 0) = true := by
   rw [e1, e2]; rw [begins_iff S hi] at hbg; simpa using hbg
  rw [hk, mustB_yes] at hq h ⊢
  have hqf : q = false := by
   cases q with
   | true => rw [mustB_yes] at h; exact absurd rfl h
   | false => rfl
  subst hqf;rw [mustB_no];have := hq rfl
  by_cases hn : 20 < n
  ·rw [if_pos ⟨hbg, hn⟩]
  ·rw [if_neg (fun x => hn x.2), pT_eq, if_neg (by rw [hbg]; decide), if_pos]
   have hn' : decide ((n : Int) <= 20) = true := by simp; omega
   rw [hn'] at this;simp at this;omega
 ·have hbg' : S.begins i = false := by simpa using hbg
  rw [if_neg (fun x => hbg x.1), pT_eq, if_pos hbg']
  have hk : (begunK (kAt S 0 i) (tAt S 0 i) != 0) = false := by
   by_cases hi : i < S.n
   ·have e1 : kAt S 0 i = S.K i := if_pos ⟨rfl, hi⟩
    have e2 : tAt S 0 i = S.T i := if_pos ⟨rfl, hi⟩;rw [e1, e2]; rw [begins_iff S hi] at hbg'; simpa using hbg'
   ·have e1 : kAt S 0 i = 0 := if_neg (fun x => hi x.2)
    have e2 : tAt S 0 i = ⟨#[]⟩ := if_neg (fun x => hi x.2);rw [e1, e2]; decide
  rw [hk, mustB_no, mustB_bad _ _ (by decide)]
theorem read_yes {S : Toks} {f d n i c b : Nat} {q : Bool} (hq : mustB b (begunK (kAt S b i) (tAt S b i) != 0) 2 = 0 -> q = (decide ((d : Int) <= 32) && (decide (((c + 1 : Nat) : Int) <= 500) && decide ((n : Int) <= 20))))
  (h : mustB (mustB b (begunK (kAt S b i) (tAt S b i) != 0) 2) q 3 = 0) : b = 0 /\ i < S.n /\ S.begins i = true /\ d <= 32 /\ c + 1 <= 500 /\ n <= 20 /\ badR b i (readR S (f + 1) d n i c) = kindR S f d i c (begunK (kAt S b i) (tAt S b i)) := by
 by_cases hb : b = 0
 rotate_left
 ·rw [mustB_bad _ _ hb, mustB_bad _ _ hb] at h; exact absurd h hb
 subst hb
 cases hk : (begunK (kAt S 0 i) (tAt S 0 i) != 0) with
 | false => rw [hk, mustB_no, mustB_bad _ _ (by decide)] at h; cases h
 | true =>
  rw [hk, mustB_yes] at hq h
  have hqt : q = true := by
   cases q with
   | true => rfl
   | false => cases h
  have hq' := hq rfl
  rw [hqt] at hq';have h3 : (d : Int) <= 32 /\ ((c + 1 : Nat) : Int) <= 500 /\ (n : Int) <= 20 := by simpa using hq'.symm
  have hi : i < S.n := by
   by_cases hi : i < S.n
   ·exact hi
   ·have e1 : kAt S 0 i = 0 := if_neg (fun x => hi x.2)
    have e2 : tAt S 0 i = ⟨#[]⟩ := if_neg (fun x => hi x.2);rw [e1, e2] at hk; exact absurd hk (by decide)
  have e1 : kAt S 0 i = S.K i := if_pos ⟨rfl, hi⟩;have e2 : tAt S 0 i = S.T i := if_pos ⟨rfl, hi⟩;have hbg : S.begins i = true := by rw [begins_iff S hi, <- e1, <- e2]; simpa using hk
  refine ⟨rfl, hi, hbg, by omega, by omega, by omega, ?_⟩;rw [badR_0, e1, e2];unfold readR
  rw [if_neg (by omega), pT_eq, if_neg (by rw [hbg]; decide), if_neg (by omega), rest_kind S hi hbg]
theorem sign_of_kind {S : Toks} {i : Nat} {k : Int} {l : List UInt8} (hi : i < S.n) (hk : begunK (kAt S 0 i) (tAt S 0 i) = k) (hl : (k = 5 /\ l = [123]) \/ (k = 6 /\ l = [91]) \/ (k = 7 /\ l = [40]) \/ (k = 9 /\ l = [60])) : S.sign i l = true := by
 have e1 : kAt S 0 i = S.K i := if_pos ⟨rfl, hi⟩
 have e2 : tAt S 0 i = S.T i := if_pos ⟨rfl, hi⟩
 rw [e1, e2] at hk
 have h8 : k ≠ 8 := by omega
 have h0 : k ≠ 0 := by omega
 have h4 : ¬ k <= 4 := by omega
 unfold begunK at hk
 split at hk
 ·exact absurd hk.symm h8
 split at hk
 ·rcases baseT_range (S.T i).data.toList with q | q | q | q | q <;> (rw [q] at hk; omega)
 split at hk
 ·rename_i k4
  unfold Toks.sign
  unfold signK at hk
  have : (S.T i).data.toList = l := by
   rcases hl with ⟨rfl, rfl⟩ | ⟨rfl, rfl⟩ | ⟨rfl, rfl⟩ | ⟨rfl, rfl⟩
   all_goals (repeat' split at hk)
   all_goals (first | assumption | omega)
  simp [hi, k4, this]
 ·omega
theorem cread_core {W : World} {cu r : Nat} {A : Option Addr} {S : Toks} {cn f : Nat} (he : CEnv W) (d n i c b : Nat) (w : World) (hc : RCtx W cu r A S w) (h : RSt cu r A S.n cn i c b w) (hc5 : c <= 500) (hd5 : d <= 1000000) (hn5 : n <= 1000000) (hne : b = 0 -> ∀ j, readR S (f + 1) d n i c ≠ .err 99 j)
  (GO : b = 0 -> S.begins i = true -> n <= 20 -> CReadOk W cu r A S cn f /\
   CKOk W cu r A S cn 168 [123] (fun d i c => partsR S 5 [125] f d i c) /\
   CKOk W cu r A S cn 169 [91] (fun d i c => partsR S 6 [93] f d i c) /\
   CKOk W cu r A S cn 170 [40] (fun d i c => fnR S f d i c)) :
  Calls Tryz.prog 123 #[.pointer (some ⟨r, 0, none⟩), .int .i64 d, .int .i64 n] w (COut w cu r A S.n cn (badR b i (readR S (f + 1) d n i c))) := by
 have hr := h.lt
 have hq0 := h.qlt
 have hbig := hc.cur.big
 obtain ⟨R, hR⟩ : ∃ R, badR b i (readR S (f + 1) d n i c) = R := ⟨_, rfl⟩
 rw [hR]
 obtain ⟨w0, hw0⟩ : ∃ w0, w0 = w.alloc (.cells #[.int .i64 0, .string ⟨#[]⟩, .int .i64 0, .string ⟨#[]⟩, .string ⟨#[]⟩, .slice none 0 0, .slice none 0 0] 48) := ⟨_, rfl⟩
 have B0 : Below w.heap.size w w0 := by rw [hw0]; exact below_new (Below.refl _ _) _
 have X0 : Bx w.heap.size w0 := by rw [hw0]; exact heap_alloc_new w _
 have hl0 : w.heap.size < w0.heap.size := (Array.getElem?_eq_some_iff.1 X0).1
 have hne0 : w.heap.size ≠ r /\ w.heap.size ≠ cu := ⟨Nat.ne_of_gt hr, Nat.ne_of_gt hq0⟩
 have C0 := hc.on (KQ.of_below B0)
 have h0 := h.below B0
 have NX := zH (rnext_any C0 h0)
 have hts := tAt_size hc.cur b i
 have HC0 := zH C0
 have H0 := zH h0
 have p0 := h0.p
 have HX0 := zH X0
 have HK0 := zH (KQ.of_below (q := cu) (r := r) B0)
 have HR := zH hR
 have HN := zH hne
 have HE := zH he
 have GO' := zH GO
 have HW0 := zH hw0
 clear h hc hR hne he GO hw0 B0 X0 C0 h0
 go_enter Tryz.func123, Tryz.ntmps123
 go_upto_region 1 with fail
 rw [<- HW0.out]
 go_wp2_with fail
 refine NX.out.mono ?_; rintro e w1 ⟨y, rfl, hb1⟩
 obtain ⟨k, hk⟩ : ∃ k, begunK (kAt S b i) (tAt S b i) = k := ⟨_, rfl⟩
 have BG := zH (begun_any (kAt S b i) y (tAt S b i) w1 (by omega))
 rw [hk] at BG
 have HB1 := zH hb1
 have HK := zH hk
 generalize hkk : kAt S b i = kk at BG ⊢
 generalize htt : tAt S b i = tt at hts BG ⊢
 clear hkk htt hb1 NX hk hts
 go_wp2_with fail
 refine BG.out.mono ?_; rintro e w2 ⟨rfl, hb2⟩
 have B02 := below_over HB1.out hb2
 have h2 := H0.out.below B02
 have p2 := h2.p
 have C2 := HC0.out.on (KQ.of_below B02)
 have X2 : Bx w.heap.size w2 := (B02.block _ hl0).trans HX0.out
 have HK2 := zH (HK0.out.trans (KQ.of_below B02))
 have hl2 := Nat.lt_of_lt_of_le hl0 B02.size
 have MU := zH (fun q => rmust_any h2 q 2 (by decide))
 have HC2 := zH C2
 have HX2 := zH X2
 clear hb2 BG HB1 B02 h2 C2 X2 HX0 HK0 HC0 H0
 go_wp2_with fail
 refine (MU.out _).mono ?_; rintro e w3 ⟨rfl, h3, k3⟩
 have HKE := HK.out
 rw [<- HK.out] at h3
 have HQ := zH (fun q hq => read_no (S := S) (f := f) (d := d) (n := n) (i := i) (c := c) (b := b) (q := q) hq)
 have HY := zH (fun q hq => read_yes (S := S) (f := f) (d := d) (n := n) (i := i) (c := c) (b := b) (q := q) hq)
 obtain ⟨b1, hb1⟩ : ∃ b1, mustB b (begunK (kAt S b i) (tAt S b i) != 0) 2 = b1 := ⟨_, rfl⟩
 rw [hb1] at h3 HQ HY
 clear HKE hb1
 obtain ⟨x, r2, f2, hx, h4⟩ := h3.more hc5
 obtain ⟨z, hz⟩ : ∃ z, wrap64 (x + 1) = z := ⟨_, rfl⟩
 have hzc : b1 = 0 -> z = ((c + 1 : Nat) : Int) := fun e => by rw [<- hz, hx e]; unfold wrap64; omega
 rw [hz] at h4
 obtain ⟨w4, hw4⟩ : ∃ w4, w4 = w3.setCell ⟨r, 1, none⟩ (.int .i64 z) := ⟨_, rfl⟩
 rw [<- hw4] at h4
 have k4 : KQ cu r w2 w4 := by rw [hw4]; exact k3.put 1 _
 have C4 := HC2.out.on k4
 have X4 : Bx w.heap.size w4 := (k4.blk hl2 hne0).trans HX2.out
 have r4 : w4.cell? ⟨r, 1, none⟩ = some (.int .i64 z) := by
  rw [hw4]; exact World.cell?_setCell_same _ _ _ r2
 have HK4 := zH (HK2.out.trans k4)
 have hl4 := Nat.lt_of_lt_of_le hl2 k4.size
 have MU' : Hid (∀ dq osq v, Calls Tryz.prog 71 #[.pointer (some ⟨cu, 0, none⟩), .bool v, .int .i64 3] (Sort.grow (redrawn w4 dq) osq) fun e w' => e = .returned (.tuple #[]) /\ RSt cu r A S.n cn i (c + 1) (mustB b1 v 3) w' /\ KQ cu r w4 w') :=
  zH (fun dq osq v => (rmust_any (h4.below (below_regrown w4 dq osq)) v 3 (by decide)).mono fun _ _ ⟨he, h1, k1⟩ => ⟨he, h1, (KQ.of_below (below_regrown w4 dq osq)).trans k1⟩)
 have p4 := h4.p
 have HC4 := zH C4
 have HX4 := zH X4
 have HZ := zH hzc
 have HW4 := zH hw4
 have HZ0 := zH hz
 clear h3 k3 k4 C4 X4 hzc hx hz hw4 h4 MU HC2 HX2 HK2
 go_upto_region 4 with fail
 rw [HZ0.out, <- HW4.out]
 clear r2 f2
 go_cut [7] (fun s7 wx => s7 = .int .i64 k /\ ∃ q, RSt cu r A S.n cn i (c + 1) (mustB b1 q 3) wx /\ KQ cu r w4 wx /\ (b1 = 0 -> q = (decide ((d : Int) <= 32) && (decide (((c + 1 : Nat) : Int) <= 500) && decide ((n : Int) <= 20)))))
 case first =>
  have HR4 := zH r4;have ZZ : Hid (b1 = 0 -> (decide (z <= 500)) = decide (((c + 1 : Nat) : Int) <= 500)) := zH (fun e => by rw [HZ.out e]);have P4 := cell_regrown p4;have R4 := cell_regrown r4;clear p0 p2 p4 r4;rcases hid_or (decide ((d : Int) <= 32)) with a1 | a1
  ·have y1 := a1.out
   refine wp_region_last (C := fun w' => ∃ p : Regrown, w' = Sort.grow (redrawn w4 p.d) p.os) (by kernel_rfl) rfl rfl (by kernel_rfl) (by intro cs b h; cases h) (by kernel_rfl) (by kernel_rfl) (by kernel_rfl) ⟨⟨w4.drawn + 1, #[]⟩, by rw [grow_empty]; rfl⟩ ?_;unfold tameLast
   simp only [List.dropLast, List.cons_append, List.nil_append];repeat (any_goals (first | go_big_quiet_step (fail) | quiet_step (fail)))
   refine wpQuiet_nil ?_;intro w' hw';obtain ⟨⟨dq, osq⟩, hw''⟩ := hw';subst hw'';refine ⟨71, #[.pointer (some ⟨cu, 0, none⟩), .bool false, .int .i64 3], by go_simp, ?_⟩;refine (MU'.out dq osq false).mono ?_;rintro e w5 ⟨rfl, h5, k5⟩;have FIN := zH (⟨h5, k5, fun e => by rw [y1]; rfl⟩ : RSt cu r A S.n cn i (c + 1) (mustB b1 false 3) w5 /\ KQ cu r w4 w5 /\ (b1 = 0 -> false = (decide ((d : Int) <= 32) && (decide (((c + 1 : Nat) : Int) <= 500) && decide ((n : Int) <= 20)))));clear h5 k5;refine ⟨_, rfl, ?_⟩;go_wp2_with fail
   go_meet
   exact ⟨rfl, false, FIN.out⟩
  have y1 := a1.out;rcases hid_or (decide (z <= 500)) with a2 | a2
  ·have y2 := a2.out
   refine wp_region_last (C := fun w' => ∃ p : Regrown, w' = Sort.grow (redrawn w4 p.d) p.os) (by kernel_rfl) rfl rfl (by kernel_rfl) (by intro cs b h; cases h) (by kernel_rfl) (by kernel_rfl) (by kernel_rfl) ⟨⟨w4.drawn + 1, #[]⟩, by rw [grow_empty]; rfl⟩ ?_;unfold tameLast
   simp only [List.dropLast, List.cons_append, List.nil_append];repeat (any_goals (first | go_big_quiet_step (fail) | quiet_step (fail)))
   refine wpQuiet_nil ?_;intro w' hw';obtain ⟨⟨dq, osq⟩, hw''⟩ := hw';subst hw'';refine ⟨71, #[.pointer (some ⟨cu, 0, none⟩), .bool false, .int .i64 3], by go_simp, ?_⟩;refine (MU'.out dq osq false).mono ?_;rintro e w5 ⟨rfl, h5, k5⟩;have FIN := zH (⟨h5, k5, fun e => by rw [y1, <- ZZ.out e, y2]; rfl⟩ : RSt cu r A S.n cn i (c + 1) (mustB b1 false 3) w5 /\ KQ cu r w4 w5 /\ (b1 = 0 -> false = (decide ((d : Int) <= 32) && (decide (((c + 1 : Nat) : Int) <= 500) && decide ((n : Int) <= 20)))));clear h5 k5;refine ⟨_, rfl, ?_⟩;go_wp2_with fail
   go_meet
   exact ⟨rfl, false, FIN.out⟩
  have y2 := a2.out;rcases hid_or (decide ((n : Int) <= 20)) with a3 | a3
  ·have y3 := a3.out
   refine wp_region_last (C := fun w' => ∃ p : Regrown, w' = Sort.grow (redrawn w4 p.d) p.os) (by kernel_rfl) rfl rfl (by kernel_rfl) (by intro cs b h; cases h) (by kernel_rfl) (by kernel_rfl) (by kernel_rfl) ⟨⟨w4.drawn + 1, #[]⟩, by rw [grow_empty]; rfl⟩ ?_;unfold tameLast
   simp only [List.dropLast, List.cons_append, List.nil_append];repeat (any_goals (first | go_big_quiet_step (fail) | quiet_step (fail)))
   refine wpQuiet_nil ?_;intro w' hw';obtain ⟨⟨dq, osq⟩, hw''⟩ := hw';subst hw'';refine ⟨71, #[.pointer (some ⟨cu, 0, none⟩), .bool false, .int .i64 3], by go_simp, ?_⟩;refine (MU'.out dq osq false).mono ?_;rintro e w5 ⟨rfl, h5, k5⟩;have FIN := zH (⟨h5, k5, fun e => by rw [y1, <- ZZ.out e, y2, y3]; rfl⟩ : RSt cu r A S.n cn i (c + 1) (mustB b1 false 3) w5 /\ KQ cu r w4 w5 /\ (b1 = 0 -> false = (decide ((d : Int) <= 32) && (decide (((c + 1 : Nat) : Int) <= 500) && decide ((n : Int) <= 20)))));clear h5 k5;refine ⟨_, rfl, ?_⟩;go_wp2_with fail
   go_meet
   exact ⟨rfl, false, FIN.out⟩
  have y3 := a3.out;refine wp_region_last (C := fun w' => ∃ p : Regrown, w' = Sort.grow (redrawn w4 p.d) p.os) (by kernel_rfl) rfl rfl (by kernel_rfl) (by intro cs b h; cases h) (by kernel_rfl) (by kernel_rfl) (by kernel_rfl) ⟨⟨w4.drawn + 1, #[]⟩, by rw [grow_empty]; rfl⟩ ?_;unfold tameLast
  simp only [List.dropLast, List.cons_append, List.nil_append];repeat (any_goals (first | go_big_quiet_step (fail) | quiet_step (fail)))
  refine wpQuiet_nil ?_;intro w' hw';obtain ⟨⟨dq, osq⟩, hw''⟩ := hw';subst hw'';refine ⟨71, #[.pointer (some ⟨cu, 0, none⟩), .bool true, .int .i64 3], by go_simp, ?_⟩;refine (MU'.out dq osq true).mono ?_;rintro e w5 ⟨rfl, h5, k5⟩;have FIN := zH (⟨h5, k5, fun e => by rw [y1, <- ZZ.out e, y2, y3]; rfl⟩ : RSt cu r A S.n cn i (c + 1) (mustB b1 true 3) w5 /\ KQ cu r w4 w5 /\ (b1 = 0 -> true = (decide ((d : Int) <= 32) && (decide (((c + 1 : Nat) : Int) <= 500) && decide ((n : Int) <= 20)))));clear h5 k5;refine ⟨_, rfl, ?_⟩;go_wp2_with fail
  go_meet
  exact ⟨rfl, true, FIN.out⟩
 case rest =>
  obtain ⟨rfl, q, h5, k5, hq⟩ := hcut;have C5 := HC4.out.on k5;have HX5 : Hid (Bx w.heap.size _) := zH ((k5.blk hl4 hne0).trans HX4.out);have HK5 := zH (HK4.out.trans k5);have hl5 := Nat.lt_of_lt_of_le hl4 k5.size;by_cases hb2 : mustB b1 q 3 = 0
  rotate_left
  ·have hres := HQ.out q hq hb2 noT 0
   have h5' := h5.any hb2 0
   have X5 := HX5.out;have CE := zH (cerr_yes h5.cur hb2);have p5 := h5.p;have SEAL := zH (COut.seal (R := R) (Nat.le_refl _) X5 HK5.out (TyAt.zero (strike (· < w.heap.size + 1) _)) (Nat.lt_succ_self _) hr h5' (by omega) (hres.trans HR.out));unfold Bx at X5
   clear h5 h5' hres C5 k5 hq HX5 HK5 MU' HC4 HX4 HK4 r4;go_wp2_with fail
   refine CE.out.mono ?_; rintro e w6 ⟨g, rfl, rfl, -⟩
   go_upto_region 6 with fail
   go_wp2_with (first | ((with_reducible refine wpList_putRow 48 (w.heap.size) #[.int .i64 0, .string ⟨#[]⟩, .int .i64 0, .string ⟨#[]⟩, .string ⟨#[]⟩, .slice none 0 0, .slice none 0 0] _ _ X5 ?_ ?_ ?_ ?_ ?_ ?_); exact tySize; rfl; exact tyOne; iterate 2 (focus (first | (go_simp; done) | rfl))))
   exact ret_agg1 (fn := Tryz.f123) (vs := [.int .i64 0, .string ⟨#[]⟩, .int .i64 0, .string ⟨#[]⟩, .string ⟨#[]⟩, .slice none 0 0, .slice none 0 0]) (b := w.heap.size) rfl rfl Tryz.underlying48 (by kernel_rfl) SEAL.out.1 rfl SEAL.out.2
  rw [hb2] at h5;obtain ⟨rfl, hi, hbg, hd32, hc500, hn20, hrk⟩ := HY.out q hq hb2;obtain ⟨RD, RC, VA, FU⟩ := GO'.out rfl hbg hn20;have RD' := zH RD
  have RC' := zH RC
  have VA' := zH VA
  have FU' := zH FU
  clear RD RC VA FU GO';have HRK : Hid (R = kindR S f d i c k) := zH (by rw [<- HR.out, hrk, HK.out]);have HNE : Hid (∀ j, R ≠ .err 99 j) := zH (fun j e => HN.out rfl j (by rw [<- e, <- HR.out, badR_0]));have HI := zH hi;have HL := zH (⟨hd32, hc500, hn20⟩ : d <= 32 /\ c + 1 <= 500 /\ n <= 20);have H5 := zH h5;have HC5 := zH C5;have hd1 : d <= 32 := hd32;have CE := zH (cerr_no h5.cur);have p5 := h5.p
  have hnz : Hid (k ≠ 0) := zH (by
   rw [begins_iff S hi] at hbg;have e1 : kAt S 0 i = S.K i := if_pos ⟨rfl, hi⟩;have e2 : tAt S 0 i = S.T i := if_pos ⟨rfl, hi⟩;rw [<- HK.out, e1, e2]; simpa using hbg)
  clear h5 C5 k5 hq hb2 hrk hbg hi hc500 hn20 hd32 MU' HC4 HX4 HK4 r4 HQ HY HN HR;go_wp2_with fail
  refine CE.out.mono ?_; rintro e w6 ⟨rfl, rfl⟩
  clear CE;rcases hid_or (k == 4) with g4 | g4
  rotate_left
  ·have v4 := g4.out
   have hkk : k = 4 := by simpa using v4
   have CA := zH (clist_any (d := d) (d' := d + 1) RD'.out HC5.out H5.out HI.out HL.out.2.1 rfl (by omega) R (by rw [HRK.out, hkk]; rfl) HNE.out);clear hkk;go_upto_region 9 with fail
   go_wp2_with fail
   refine CA.out.mono ?_; rintro e w6 ⟨l, t, i6, c6, b6, rfl, hT6, k6, h6, hc6, hres⟩
   obtain ⟨An, cA, As, cS, rfl, -⟩ := hT6.parts;have hs6 := k6.size;have X6 : Bx w.heap.size w6 := (k6.blk hl5 hne0).trans HX5.out;have SEAL := zH (COut.seal (R := R) (Nat.le_refl _) X6 (HK5.out.trans k6) (hT6.move (S' := (· < w.heap.size + 1)) (Nat.le_refl _) fun b hb hS => ⟨fun e => hS (Nat.lt_of_lt_of_le (show b < w.heap.size + 1 from e) hl5), rfl⟩) (Nat.lt_succ_self _) hr h6 hc6 hres);unfold Bx at X6
   clear hT6 k6 h6 hres CA HX5 HK5;go_wp2_with (first | ((with_reducible refine wpList_putRow 48 (w.heap.size) #[.int .i64 t.kind, .string t.pkg, .int .i64 t.major, .string t.mod, .string t.name, .slice An t.names.length cA, .slice As t.subs.length cS] _ _ X6 ?_ ?_ ?_ ?_ ?_ ?_); exact tySize; rfl; exact tyOne; iterate 2 (focus (first | (go_simp; done) | rfl))))
   exact ret_agg1 (fn := Tryz.f123) (vs := [.int .i64 t.kind, .string t.pkg, .int .i64 t.major, .string t.mod, .string t.name, .slice An t.names.length cA, .slice As t.subs.length cS]) (b := w.heap.size) rfl rfl Tryz.underlying48 (by kernel_rfl) SEAL.out.1 rfl SEAL.out.2
  have v4 := g4.out;rcases hid_or (k == 5) with g5 | g5
  rotate_left
  ·have v5 := g5.out
   have hkk : k = 5 := by simpa using v5
   have CA := zH (RC'.out d (d + 1) i (c + 1) _ R HC5.out H5.out (sign_of_kind HI.out HK.out (.inl ⟨hkk, rfl⟩)) HL.out.2.1 rfl (by omega) (by rw [HRK.out, hkk]; rfl) HNE.out);clear hkk;go_upto_region 11 with fail
   go_wp2_with fail
   refine CA.out.mono ?_; rintro e w6 ⟨l, t, i6, c6, b6, rfl, hT6, k6, h6, hc6, hres⟩
   obtain ⟨An, cA, As, cS, rfl, -⟩ := hT6.parts;have hs6 := k6.size;have X6 : Bx w.heap.size w6 := (k6.blk hl5 hne0).trans HX5.out;have SEAL := zH (COut.seal (R := R) (Nat.le_refl _) X6 (HK5.out.trans k6) (hT6.move (S' := (· < w.heap.size + 1)) (Nat.le_refl _) fun b hb hS => ⟨fun e => hS (Nat.lt_of_lt_of_le (show b < w.heap.size + 1 from e) hl5), rfl⟩) (Nat.lt_succ_self _) hr h6 hc6 hres);unfold Bx at X6
   clear hT6 k6 h6 hres CA HX5 HK5;go_wp2_with (first | ((with_reducible refine wpList_putRow 48 (w.heap.size) #[.int .i64 t.kind, .string t.pkg, .int .i64 t.major, .string t.mod, .string t.name, .slice An t.names.length cA, .slice As t.subs.length cS] _ _ X6 ?_ ?_ ?_ ?_ ?_ ?_); exact tySize; rfl; exact tyOne; iterate 2 (focus (first | (go_simp; done) | rfl))))
   exact ret_agg1 (fn := Tryz.f123) (vs := [.int .i64 t.kind, .string t.pkg, .int .i64 t.major, .string t.mod, .string t.name, .slice An t.names.length cA, .slice As t.subs.length cS]) (b := w.heap.size) rfl rfl Tryz.underlying48 (by kernel_rfl) SEAL.out.1 rfl SEAL.out.2
  have v5 := g5.out;rcases hid_or (k == 6) with g6 | g6
  rotate_left
  ·have v6 := g6.out
   have hkk : k = 6 := by simpa using v6
   have CA := zH (VA'.out d (d + 1) i (c + 1) _ R HC5.out H5.out (sign_of_kind HI.out HK.out (.inr (.inl ⟨hkk, rfl⟩))) HL.out.2.1 rfl (by omega) (by rw [HRK.out, hkk]; rfl) HNE.out);clear hkk;go_upto_region 13 with fail
   go_wp2_with fail
   refine CA.out.mono ?_; rintro e w6 ⟨l, t, i6, c6, b6, rfl, hT6, k6, h6, hc6, hres⟩
   obtain ⟨An, cA, As, cS, rfl, -⟩ := hT6.parts;have hs6 := k6.size;have X6 : Bx w.heap.size w6 := (k6.blk hl5 hne0).trans HX5.out;have SEAL := zH (COut.seal (R := R) (Nat.le_refl _) X6 (HK5.out.trans k6) (hT6.move (S' := (· < w.heap.size + 1)) (Nat.le_refl _) fun b hb hS => ⟨fun e => hS (Nat.lt_of_lt_of_le (show b < w.heap.size + 1 from e) hl5), rfl⟩) (Nat.lt_succ_self _) hr h6 hc6 hres);unfold Bx at X6
   clear hT6 k6 h6 hres CA HX5 HK5;go_wp2_with (first | ((with_reducible refine wpList_putRow 48 (w.heap.size) #[.int .i64 t.kind, .string t.pkg, .int .i64 t.major, .string t.mod, .string t.name, .slice An t.names.length cA, .slice As t.subs.length cS] _ _ X6 ?_ ?_ ?_ ?_ ?_ ?_); exact tySize; rfl; exact tyOne; iterate 2 (focus (first | (go_simp; done) | rfl))))
   exact ret_agg1 (fn := Tryz.f123) (vs := [.int .i64 t.kind, .string t.pkg, .int .i64 t.major, .string t.mod, .string t.name, .slice An t.names.length cA, .slice As t.subs.length cS]) (b := w.heap.size) rfl rfl Tryz.underlying48 (by kernel_rfl) SEAL.out.1 rfl SEAL.out.2
  have v6 := g6.out;rcases hid_or (k == 7) with g7 | g7
  rotate_left
  ·have v7 := g7.out
   have hkk : k = 7 := by simpa using v7
   have CA := zH (FU'.out d (d + 1) i (c + 1) _ R HC5.out H5.out (sign_of_kind HI.out HK.out (.inr (.inr (.inl ⟨hkk, rfl⟩)))) HL.out.2.1 rfl (by omega) (by rw [HRK.out, hkk]; rfl) HNE.out);clear hkk;go_upto_region 15 with fail
   go_wp2_with fail
   refine CA.out.mono ?_; rintro e w6 ⟨l, t, i6, c6, b6, rfl, hT6, k6, h6, hc6, hres⟩
   obtain ⟨An, cA, As, cS, rfl, -⟩ := hT6.parts;have hs6 := k6.size;have X6 : Bx w.heap.size w6 := (k6.blk hl5 hne0).trans HX5.out;have SEAL := zH (COut.seal (R := R) (Nat.le_refl _) X6 (HK5.out.trans k6) (hT6.move (S' := (· < w.heap.size + 1)) (Nat.le_refl _) fun b hb hS => ⟨fun e => hS (Nat.lt_of_lt_of_le (show b < w.heap.size + 1 from e) hl5), rfl⟩) (Nat.lt_succ_self _) hr h6 hc6 hres);unfold Bx at X6
   clear hT6 k6 h6 hres CA HX5 HK5;go_wp2_with (first | ((with_reducible refine wpList_putRow 48 (w.heap.size) #[.int .i64 t.kind, .string t.pkg, .int .i64 t.major, .string t.mod, .string t.name, .slice An t.names.length cA, .slice As t.subs.length cS] _ _ X6 ?_ ?_ ?_ ?_ ?_ ?_); exact tySize; rfl; exact tyOne; iterate 2 (focus (first | (go_simp; done) | rfl))))
   exact ret_agg1 (fn := Tryz.f123) (vs := [.int .i64 t.kind, .string t.pkg, .int .i64 t.major, .string t.mod, .string t.name, .slice An t.names.length cA, .slice As t.subs.length cS]) (b := w.heap.size) rfl rfl Tryz.underlying48 (by kernel_rfl) SEAL.out.1 rfl SEAL.out.2
  have v7 := g7.out;rcases hid_or (k == 8) with g8 | g8
  rotate_left
  ·have v8 := g8.out
   have hkk : k = 8 := by simpa using v8
   have CA := zH (clocal_any HC5.out H5.out HL.out.2.1 R (by rw [HRK.out, hkk]; rfl));clear hkk;go_upto_region 17 with fail
   go_wp2_with fail
   refine CA.out.mono ?_; rintro e w6 ⟨l, t, i6, c6, b6, rfl, hT6, k6, h6, hc6, hres⟩
   obtain ⟨An, cA, As, cS, rfl, -⟩ := hT6.parts;have hs6 := k6.size;have X6 : Bx w.heap.size w6 := (k6.blk hl5 hne0).trans HX5.out;have SEAL := zH (COut.seal (R := R) (Nat.le_refl _) X6 (HK5.out.trans k6) (hT6.move (S' := (· < w.heap.size + 1)) (Nat.le_refl _) fun b hb hS => ⟨fun e => hS (Nat.lt_of_lt_of_le (show b < w.heap.size + 1 from e) hl5), rfl⟩) (Nat.lt_succ_self _) hr h6 hc6 hres);unfold Bx at X6
   clear hT6 k6 h6 hres CA HX5 HK5;go_wp2_with (first | ((with_reducible refine wpList_putRow 48 (w.heap.size) #[.int .i64 t.kind, .string t.pkg, .int .i64 t.major, .string t.mod, .string t.name, .slice An t.names.length cA, .slice As t.subs.length cS] _ _ X6 ?_ ?_ ?_ ?_ ?_ ?_); exact tySize; rfl; exact tyOne; iterate 2 (focus (first | (go_simp; done) | rfl))))
   exact ret_agg1 (fn := Tryz.f123) (vs := [.int .i64 t.kind, .string t.pkg, .int .i64 t.major, .string t.mod, .string t.name, .slice An t.names.length cA, .slice As t.subs.length cS]) (b := w.heap.size) rfl rfl Tryz.underlying48 (by kernel_rfl) SEAL.out.1 rfl SEAL.out.2
  have v8 := g8.out;rcases hid_or (k == 9) with g9 | g9
  rotate_left
  ·have v9 := g9.out
   have hkk : k = 9 := by simpa using v9
   have CA := zH (copen_any HC5.out HE.out H5.out HL.out.2.1 R (sign_of_kind HI.out HK.out (.inr (.inr (.inr ⟨hkk, rfl⟩)))) (by rw [HRK.out, hkk]; rfl));clear hkk;go_upto_region 19 with fail
   go_wp2_with fail
   refine CA.out.mono ?_; rintro e w6 ⟨l, t, i6, c6, b6, rfl, hT6, k6, h6, hc6, hres⟩
   obtain ⟨An, cA, As, cS, rfl, -⟩ := hT6.parts;have hs6 := k6.size;have X6 : Bx w.heap.size w6 := (k6.blk hl5 hne0).trans HX5.out;have SEAL := zH (COut.seal (R := R) (Nat.le_refl _) X6 (HK5.out.trans k6) (hT6.move (S' := (· < w.heap.size + 1)) (Nat.le_refl _) fun b hb hS => ⟨fun e => hS (Nat.lt_of_lt_of_le (show b < w.heap.size + 1 from e) hl5), rfl⟩) (Nat.lt_succ_self _) hr h6 hc6 hres);unfold Bx at X6
   clear hT6 k6 h6 hres CA HX5 HK5;go_wp2_with (first | ((with_reducible refine wpList_putRow 48 (w.heap.size) #[.int .i64 t.kind, .string t.pkg, .int .i64 t.major, .string t.mod, .string t.name, .slice An t.names.length cA, .slice As t.subs.length cS] _ _ X6 ?_ ?_ ?_ ?_ ?_ ?_); exact tySize; rfl; exact tyOne; iterate 2 (focus (first | (go_simp; done) | rfl))))
   exact ret_agg1 (fn := Tryz.f123) (vs := [.int .i64 t.kind, .string t.pkg, .int .i64 t.major, .string t.mod, .string t.name, .slice An t.names.length cA, .slice As t.subs.length cS]) (b := w.heap.size) rfl rfl Tryz.underlying48 (by kernel_rfl) SEAL.out.1 rfl SEAL.out.2
  have v9 := g9.out
  have hkr : kindR S f d i c k = .ok (leafK k) (i + 1) (c + 1) := by
   unfold kindR
   simp only [beq_eq_false_iff_ne, ne_eq] at v4 v5 v6 v7 v8 v9;rw [if_neg v4, if_neg v5, if_neg v6, if_neg v7, if_neg v8, if_neg v9]
  have PA := zH (rpass_any HC5.out H5.out HI.out);go_upto_region 20 with fail
  go_wp2_with fail
  refine PA.out.mono ?_; rintro e w6 ⟨rfl, h6, k6⟩
  have X6 : Bx w.heap.size w6 := (k6.blk hl5 hne0).trans HX5.out;have SEAL := zH (COut.seal (R := R) (Nat.le_refl _) X6 (HK5.out.trans k6) (TyAt.leaf (strike (· < w.heap.size + 1) w6) k ⟨#[]⟩ 0 ⟨#[]⟩ ⟨#[]⟩ (by decide) (by decide) (by decide)) (Nat.lt_succ_self _) hr h6 HL.out.2.1 (by rw [HRK.out, hkr]; rfl));unfold Bx at X6
  clear hkr h6 k6 HX5 HK5 PA;go_upto_region 21 with fail
  go_wp2_with (first | ((with_reducible refine wpList_putRow 48 (w.heap.size) #[.int .i64 k, .string ⟨#[]⟩, .int .i64 0, .string ⟨#[]⟩, .string ⟨#[]⟩, .slice none 0 0, .slice none 0 0] _ _ X6 ?_ ?_ ?_ ?_ ?_ ?_); exact tySize; rfl; exact tyOne; iterate 2 (focus (first | (go_simp; done) | rfl))))
  exact ret_agg1 (fn := Tryz.f123) (vs := [.int .i64 k, .string ⟨#[]⟩, .int .i64 0, .string ⟨#[]⟩, .string ⟨#[]⟩, .slice none 0 0, .slice none 0 0]) (b := w.heap.size) rfl rfl Tryz.underlying48 (by kernel_rfl) SEAL.out.1 rfl SEAL.out.2
theorem cread_any {W : World} {cu r : Nat} {A : Option Addr} {S : Toks} {cn f : Nat} (he : CEnv W) (RD : CReadOk W cu r A S cn f)
  (RC : CKOk W cu r A S cn 168 [123] (fun d i c => partsR S 5 [125] f d i c))
  (VA : CKOk W cu r A S cn 169 [91] (fun d i c => partsR S 6 [93] f d i c))
  (FU : CKOk W cu r A S cn 170 [40] (fun d i c => fnR S f d i c)) : CReadOk W cu r A S cn (f + 1) :=
 fun d n i c b w hc h hc5 hd5 hn5 hne => cread_core he d n i c b w hc h hc5 hd5 hn5 hne fun _ _ _ => ⟨RD, RC, VA, FU⟩
theorem cread_zero {W : World} {cu r : Nat} {A : Option Addr} {S : Toks} {cn : Nat} (he : CEnv W) : CReadOk W cu r A S cn 0 := by
 intro d n i c b w hc h hc5 hd5 hn5 hne
 have key : b = 0 -> S.begins i = true /\ 20 < n := fun hb => by
  have := hne hb 0
  unfold readR at this
  by_cases hn : S.begins i = true /\ 20 < n
  ·exact hn
  ·rw [if_neg hn] at this
   exact absurd (by unfold pT; rfl) this
 have e : badR b i (readR S 0 d n i c) = badR b i (readR S (0 + 1) d n i c) := by
  by_cases hb : b = 0
  ·unfold readR; rw [if_pos (key hb), if_pos (key hb)]
  ·exact badR_bad hb
 rw [e]
 refine cread_core he d n i c b w hc h hc5 hd5 hn5 (fun hb j q => ?_) (fun hb _ hn => ?_)
 ·unfold readR at q; rw [if_pos (key hb)] at q; cases q
 ·have := (key hb).2; omega
end Go.Proofs.YtddlmigofilejaaGreatDoor
