/-
  Several texts in one.
-/
import Derived.Test.YtcdmgcgjonndpaaGreatDoorK29
import Derived.Sort.Walk0
import Derived.Lib.SlicesCompact
namespace Go.Proofs.YtcdmgcgjonndpaaGreatDoor
open Go Go.RowKit
open M
theorem locD_may {n : ByteArray} (h : greatB n.data.toList = true) : mayT (locD n) = true := by
  have e : mayT (locD n) = ((decide ((0 : Nat) <= 20) && true && (true && true && true && true && greatB n.data.toList && (smallB (⟨#[]⟩ : ByteArray).data.toList || true))) && true && decide (1 + 0 <= 500) && decide (0 + 1 <= 32)) := by
    unfold mayT
    rw [allOk_eq];rfl
  rw [e, h]; simp
theorem reach_from {m : Mo} {i j : Nat} {d : De} (hd : m.decs[i]? = some d) (h : Reach (entries m) [i] j) : j = i \/ Reach (entries m) (saidT m d.typ) j := by
  induction h with
  | one h => exact .inl (by simpa using h)
  | @step a b x _ hx hb ih =>
    rcases ih with rfl | ih
    · rw [entries_at hd] at hx
      cases hx
      exact .inr (.one hb)
    · exact .inr (.step ih hx hb)
theorem reach_on {m : Mo} {i j : Nat} {d : De} (hd : m.decs[i]? = some d) (h : Reach (entries m) (saidT m d.typ) j) : Reach (entries m) [i] j := by
  induction h with
  | one h => exact .step (.one (List.mem_cons_self)) (entries_at hd) h
  | step _ hx hb ih => exact .step ih hx hb
theorem locD_loc (n : ByteArray) : locT (locD n) = [locD n] := rfl
theorem dec_typ10 {m : Mo} (ok : Ok7 m) {i : Nat} {d : De} (hd : m.decs[i]? = some d) (h4 : d.kind ≠ 4) : typAt m d.name = some i :=
  (typAt_iff ok.dec).2 ⟨d, hd, by unfold isTyp; simp [h4]⟩
theorem locD_said {m : Mo} (ok : Ok7 m) {i : Nat} {d : De} (hd : m.decs[i]? = some d) (h4 : d.kind ≠ 4) : saidT m (locD d.name) = [i] := by
  rw [saidT_local m _ rfl, if_pos (show (locD d.name).mod.size = 0 from rfl), show (locD d.name).name = d.name from rfl, dec_typ10 ok hd h4]; rfl
theorem locD_kno {m : Mo} (ok : Ok7 m) {i : Nat} {d : De} (hd : m.decs[i]? = some d) (h4 : d.kind ≠ 4) : (locT (locD d.name)).all (knoN m) = true := by
  rw [locD_loc];simp only [List.all_cons, List.all_nil, Bool.and_true];unfold knoN
  rw [if_pos (show (locD d.name).mod.size = 0 from rfl), show (locD d.name).name = d.name from rfl, dec_typ10 ok hd h4]; rfl
theorem locD_lacks (m : Mo) (env : List If) (n : ByteArray) : lacksN m env (locT (locD n)) = false := by
  rw [locD_loc]; rfl
theorem ep_alias10 {m : Mo} {pkg : ByteArray} {major : Int} {env : List If} {i : Nat} {d : De} {c : Int} {u : Ty} (hm : MayN m pkg major env) (hd : m.decs[i]? = some d) (h3 : d.kind = 3) (h : EpIs m pkg major env d.typ c u) : EpIs m pkg major env (locD d.name) c u := by
  have ok := hm.1.2;have hD := (mayM_parts hm.1.1).2.2.2 d (List.mem_of_getElem? hd);have h4 : d.kind ≠ 4 := by omega
  have hg := mayD_great hD (.inr h3);have hmt := alias_may hm.1.1 hd h3;have hw := (loc_may m hmt).2;have hwh := ok.whole i d hd;rw [hw] at hwh;have hsaid := locD_said ok hd h4
  have e12 : ((allK m (locD d.name) m.decs.length).any fun s => lacksN m env (locT s)) = ((allK m d.typ m.decs.length).any fun s => lacksN m env (locT s)) := by
    rw [Bool.eq_iff_iff, List.any_eq_true, List.any_eq_true];constructor
    · rintro ⟨s, hs, hl⟩
      refine ⟨s, ?_, hl⟩;rcases allK_mem hs with rfl | ⟨k, e, he, hk3, hr, rfl⟩
      · rw [locD_lacks] at hl; cases hl
      · rw [hsaid] at hr
        rcases reach_from hd hr with rfl | hr
        · rw [hd] at he; cases he
          unfold allK; exact List.mem_cons_self
        · exact allK_has he hk3 hr
    · rintro ⟨s, hs, hl⟩
      refine ⟨s, ?_, hl⟩;rcases allK_mem hs with rfl | ⟨k, e, he, hk3, hr, rfl⟩
      · exact allK_has hd h3 (by rw [hsaid]; exact .one (List.mem_cons_self))
      · exact allK_has he hk3 (by rw [hsaid]; exact reach_on hd hr)
  rcases h with ⟨-, -, h⟩ | ⟨-, -, h⟩
  · exact absurd ⟨hm, hmt⟩ h
  refine .inr ⟨hm, locD_may hg, ?_⟩;rcases h with ⟨-, -, h⟩ | ⟨-, h⟩
  · rw [hwh] at h; cases h
  refine .inr ⟨locD_kno ok hd h4, ?_⟩;rcases h with ⟨h1, h2, h⟩ | ⟨h, hh, x, hx, h2⟩
  · exact .inl ⟨h1, h2, by rw [e12]; exact h⟩
  · refine .inr ⟨by rw [e12]; exact h, hh + 1, x, .inl ⟨rfl, d.typ, ?_, hx⟩, h2⟩
    unfold meanT
    rw [if_pos (show (locD d.name).mod.size = 0 from rfl), show (locD d.name).name = d.name from rfl, dec_typ10 ok hd h4];show (m.decs[i]?).map _ = _
    rw [hd]; simp [h3]
theorem ep_hidden {m : Mo} {pkg : ByteArray} {major : Int} {env : List If} {i : Nat} {d : De} (hm : MayN m pkg major env) (hd : m.decs[i]? = some d) (h2 : d.kind = 2) : EpIs m pkg major env (locD d.name) 0 (openT m pkg major d.name) := by
  have ok := hm.1.2;have hD := (mayM_parts hm.1.1).2.2.2 d (List.mem_of_getElem? hd);have h4 : d.kind ≠ 4 := by omega
  have hg : greatB d.name.data.toList = true := by
    unfold mayD at hD
    rw [if_pos (.inr h2)] at hD;exact ((Bool.and_eq_true _ _).mp hD).1
  have hnoT : d.typ = noT := by
    unfold mayD at hD
    rw [if_pos (.inr h2)] at hD;exact (sameT_iff _ _).1 ((Bool.and_eq_true _ _).mp hD).2
  have hsaid := locD_said ok hd h4;refine .inr ⟨hm, locD_may hg, .inr ⟨locD_kno ok hd h4, .inr ⟨?_, 2, openT m pkg major d.name, .inl ⟨rfl, openT m pkg major d.name, ?_, .inr ⟨by show (9 : Int) ≠ 8; decide, [], rfl, rfl, fun i s v hs _ => by simp [openT, Ty.subs] at hs⟩⟩, .inr ⟨rfl, rfl, by show (1 : Nat) + 0 <= 500; decide, by show (0 : Nat) + 1 <= 32; decide⟩⟩⟩⟩
  · rw [List.any_eq_false]
    intro s hs;rcases allK_mem hs with rfl | ⟨k, e, he, hk3, hr, rfl⟩
    · rw [locD_lacks]; decide
    · exfalso
      rw [hsaid] at hr;rcases reach_from hd hr with rfl | hr
      · rw [hd] at he; cases he; omega
      · rw [hnoT, said_noT] at hr
        exact reach_nil hr
  · unfold meanT
    rw [if_pos (show (locD d.name).mod.size = 0 from rfl), show (locD d.name).name = d.name from rfl, dec_typ10 ok hd h4];show (m.decs[i]?).map _ = _
    rw [hd]; simp [h2]
theorem rk_one {m : Mo} {b p b' p' : Int} (h : RkOut m b p) (h' : RkOut m b' p') : b = b' /\ p = p' := by
  rcases h with ⟨h1, rfl, rfl⟩ | ⟨h1, h⟩
  · rcases h' with ⟨-, rfl, rfl⟩ | ⟨h2, -⟩
    · exact ⟨rfl, rfl⟩
    · rw [h1] at h2; cases h2
  · rcases h' with ⟨h2, -⟩ | ⟨-, h'⟩
    · rw [h1] at h2; cases h2
    · cases hc : check7 m with
      | none => rw [hc] at h h'; exact ⟨h.1.trans h'.1.symm, h.2.trans h'.2.symm⟩
      | some q => obtain ⟨i, c⟩ := q; rw [hc] at h h'; exact ⟨h.1.trans h'.1.symm, h.2.trans h'.2.symm⟩
theorem rk_ok10 {m : Mo} {b p : Int} (h : RkOut m b p) (hb : b ≠ 0) : ¬ (mayM m = true /\ Ok7 m) := by
  rintro ⟨h1, h2⟩;rcases h with ⟨e, -⟩ | ⟨-, h⟩
  · rw [h1] at e; cases e
  · rw [check7_none.2 h2] at h; exact hb h.1
theorem rk_zero {m : Mo} {p : Int} (h : RkOut m 0 p) : mayM m = true /\ Ok7 m := by
  rcases h with ⟨-, e, -⟩ | ⟨h1, h⟩
  · cases e
  · refine ⟨h1, ?_⟩
    cases hc : check7 m with
    | none => exact check7_none.1 hc
    | some q =>
      obtain ⟨i, c⟩ := q;rw [hc] at h;exfalso
      have h2 := List.mem_of_find?_eq_some hc;unfold faults7 at h2
      simp at h2;have := h.1
      omega
theorem bd_one {m : Mo} {pkg : ByteArray} {major : Int} {env : List If} {c j c' j' : Int} {x x' : If} (h : BdIs m pkg major env c j x) (h' : BdIs m pkg major env c' j' x') : c = c' /\ j = j' /\ x = x' := by
  rcases h with ⟨hr, hc, hx⟩ | ⟨hm, ok, hc, hj, hx, hn⟩ | ⟨hm, h⟩
  · rcases h' with ⟨hr', hc', hx'⟩ | ⟨hm', ok', -⟩ | ⟨hm', -⟩
    · obtain ⟨e1, e2⟩ := rk_one hr hr'; exact ⟨e1, e2, by rw [hx, hx']⟩
    · exact absurd ⟨hm', ok'⟩ (rk_ok10 hr hc)
    · exact absurd hm'.1 (rk_ok10 hr hc)
  · rcases h' with ⟨hr', hc', hx'⟩ | ⟨-, -, hc', hj', hx', -⟩ | ⟨hm', -⟩
    · exact absurd ⟨hm, ok⟩ (rk_ok10 hr' hc')
    · exact ⟨by rw [hc, hc'], by rw [hj, hj'], by rw [hx, hx']⟩
    · exact absurd ⟨hm'.2.1, hm'.2.2⟩ hn
  · rcases h' with ⟨hr', hc', -⟩ | ⟨-, -, -, -, -, hn'⟩ | ⟨-, h'⟩
    · exact absurd hm.1 (rk_ok10 hr' hc')
    · exact absurd ⟨hm.2.1, hm.2.2⟩ hn'
    · rcases h with ⟨i, d, u, hd, hj, hc, hx, he, hall⟩ | ⟨hc, hj, us, hl, hus, hx⟩
      · rcases h' with ⟨i', d', u', hd', hj', hc', hx', he', hall'⟩ | ⟨hc', hj', us', hl', hus', hx'⟩
        · have hii : i = i' := by
            rcases Nat.lt_trichotomy i i' with q | q | q
            · obtain ⟨v, hv⟩ := hall' i d q hd
              exact absurd (ep_one he hv).1 hc
            · exact q
            · obtain ⟨v, hv⟩ := hall i' d' q hd'
              exact absurd (ep_one he' hv).1 hc'
          subst hii;rw [hd] at hd'; cases hd'
          exact ⟨(ep_one he he').1, by rw [hj, hj'], by rw [hx, hx']⟩
        · exfalso
          have hi := dec_lt hd;exact hc (ep_one he (hus' i d (us'[i]'(by omega)) hd (List.getElem?_eq_getElem _))).1
      · rcases h' with ⟨i', d', u', hd', hj', hc', hx', he', hall'⟩ | ⟨hc', hj', us', hl', hus', hx'⟩
        · exfalso
          have hi := dec_lt hd';exact hc' (ep_one he' (hus i' d' (us[i']'(by omega)) hd' (List.getElem?_eq_getElem _))).1
        · refine ⟨by rw [hc, hc'], by rw [hj, hj'], ?_⟩
          have e : us = us' := List.ext_getElem? fun i => by
            rcases Nat.lt_or_ge i m.decs.length with q | q
            · obtain ⟨d, hd⟩ := dec_at q
              have e1 : us[i]? = some (us[i]'(by omega)) := List.getElem?_eq_getElem _;have e2 : us'[i]? = some (us'[i]'(by omega)) := List.getElem?_eq_getElem _;rw [e1, e2, (ep_one (hus i d _ hd e1) (hus' i d _ hd e2)).2]
            · rw [List.getElem?_eq_none (by omega), List.getElem?_eq_none (by omega)]
          rw [hx, hx', e]
end Go.Proofs.YtcdmgcgjonndpaaGreatDoor
namespace Go.Proofs.YtcdmgcgjonndpaaGreatDoor
open Go
open Go.Sort
open M
def AtN (t : Ty) (s : ByteArray) (x : Ty) : Prop := ∃ i : Nat, t.names[i]? = some s /\ t.subs[i]? = some x
theorem sub_lt {x t : Ty} (h : x ∈ t.subs) : many x < many t := by
  have h1 := manyL_mem _ _ h;have e : many t = 1 + manyL t.subs := by cases t; rfl
  omega
theorem sub_lt_at {x t : Ty} {i : Nat} (h : t.subs[i]? = some x) : many x < many t := sub_lt (List.mem_of_getElem? h)
theorem AtN.lt {t x : Ty} {s : ByteArray} (h : AtN t s x) : many x < many t := by
  obtain ⟨i, -, h⟩ := h;exact sub_lt_at h
theorem empty_is {s : ByteArray} (h : emptyB s = true) : s = ⟨#[]⟩ := by
  unfold emptyB at h
  have h := of_decide_eq_true h;cases s with | mk d => cases d with | mk l =>
  simp only [ByteArray.size, List.size_toArray, List.length_eq_zero_iff] at h;rw [h]
structure Bare (t : Ty) : Prop where
  pkg : t.pkg = ⟨#[]⟩
  major : t.major = 0
  mod : t.mod = ⟨#[]⟩
  name : t.name = ⟨#[]⟩
def SubR (a b : Ty) : Prop :=
  a.kind = b.kind /\
  (a.kind = 5 -> ∀ s y, AtN b s y -> ∃ x, ∃ _ : AtN a s x, ∃ _ : AtN b s y, SubR x y) /\
  (a.kind = 6 -> ∀ s x, AtN a s x -> ∃ y, ∃ _ : AtN a s x, ∃ _ : AtN b s y, SubR x y) /\
  ((a.kind = 4 \/ a.kind = 7) -> a.subs.length = b.subs.length /\ ∀ i x y, (hx : a.subs[i]? = some x) -> (hy : b.subs[i]? = some y) -> (i + 1 = a.subs.length -> SubR x y) /\ (i + 1 ≠ a.subs.length -> SubR y x)) /\
  ((a.kind ≠ 4 /\ a.kind ≠ 5 /\ a.kind ≠ 6 /\ a.kind ≠ 7) -> a = b)
termination_by many a + many b
decreasing_by
  · rename_i h1 h2
    have := h1.lt; have := h2.lt; omega
  · rename_i h1 h2
    have := h1.lt; have := h2.lt; omega
  · have := sub_lt_at hx; have := sub_lt_at hy; omega
  · have := sub_lt_at hx; have := sub_lt_at hy; omega
def Le (up : Bool) (a b : Ty) : Prop := if up = true then SubR a b else SubR b a
end Go.Proofs.YtcdmgcgjonndpaaGreatDoor
namespace Go.Proofs.YtcdmgcgjonndpaaGreatDoor
open Go Go.RowKit Go.Shelf
open Go.Sort
open M
structure RowB {α : Type} (R : Reads α) (S : Nat -> Prop) (lo : Nat) (xs : List α) (A : Option Addr) (c : Nat) (w : World) : Prop where
  cells : ∃ C : List (List Value), C.length = xs.length /\ w.ownsRow lo R.T R.k (.slice A xs.length c) xs.length C.flatten /\
    ∀ (i : Nat) (l : List Value) (x : α), C[i]? = some l -> xs[i]? = some x -> R.E (strike (fun b => S b \/ (Value.slice A xs.length c).ownBlock = some b) w) l x
theorem RowB.start {α : Type} (R : Reads α) (S : Nat -> Prop) (lo : Nat) (w : World) : RowB R S lo [] none 0 w := ⟨[], rfl, World.ownsRow_nil _ _ _ _, fun i l x h => by simp at h⟩
theorem own_block {w w' : World} {B : Nat} {e : TypeId} {z : Nat} {v : Value} {n : Nat} {xs : List Value} (h : w.ownsRow B e z v n xs) (hb : ∀ b, v.ownBlock = some b -> w'.heap[b]? = w.heap[b]?) : w'.ownsRow B e z v n xs := by
  refine ⟨h.1, ?_⟩;rcases h.2 with h | ⟨g, cap, cur, hv, hB, hg, rest⟩
  · exact .inl h
  · exact .inr ⟨g, cap, cur, hv, hB, (hb g (by rw [hv]; rfl)).trans hg, rest⟩
theorem RowB.lt {α : Type} {R : Reads α} {S : Nat -> Prop} {lo : Nat} {xs : List α} {A : Option Addr} {c : Nat} {w : World} (h : RowB R S lo xs A c w) {b : Nat} (e : (Value.slice A xs.length c).ownBlock = some b) : lo <= b /\ b < w.heap.size := by
  obtain ⟨C, h1, h3, h4⟩ := h.cells;exact h3.lt b e
theorem RowB.keep {α : Type} {R : Reads α} {S S' : Nat -> Prop} {lo : Nat} {xs : List α} {A : Option Addr} {c : Nat} {w w' : World} (h : RowB R S lo xs A c w) (hz : w.heap.size <= w'.heap.size) (ho : ∀ b, (Value.slice A xs.length c).ownBlock = some b -> w'.heap[b]? = w.heap[b]?)
    (hb : ∀ b, ¬ S b -> (Value.slice A xs.length c).ownBlock ≠ some b -> b < w.heap.size -> ¬ S' b /\ w'.heap[b]? = w.heap[b]?) : RowB R S' lo xs A c w' := by
  obtain ⟨C, h1, h3, h4⟩ := h.cells;refine ⟨C, h1, own_block h3 ho, fun i l x hl hx => R.move _ _ _ _ _ _ (h4 i l x hl hx) hz fun b hlt hS => ?_⟩;obtain ⟨k1, k2⟩ := hb b (fun e => hS (.inl e)) (fun e => hS (.inr e)) hlt;exact ⟨fun e => e.elim k1 (fun e => hS (.inr e)), k2⟩
theorem RowB.more {α : Type} {R : Reads α} {S S' : Nat -> Prop} {lo g cap c : Nat} {xs : List α} {A : Option Addr} {w1 w3 : World} {o : Obj} {l : List Value} {x : α} {C : List (List Value)}
    (hS' : ∀ b, S b \/ (Value.slice A xs.length c).ownBlock = some b -> S' b) (hSs : ∀ b, S b -> b < w1.heap.size)
    (hC1 : C.length = xs.length) (hC4 : ∀ (i : Nat) (l : List Value) (x : α), C[i]? = some l -> xs[i]? = some x -> R.E (strike (fun b => S b \/ (Value.slice A xs.length c).ownBlock = some b) w1) l x)
    (hE : R.E (strike S' w1) l x) (hown : w3.ownsRow lo R.T R.k (.slice (some ⟨g, 0, none⟩) (xs.length + 1) cap) (xs.length + 1) (C.flatten ++ l)) (hgrow : (w1.alloc o).grownBy w3 (Value.slice A xs.length c).ownBlock)
    (hat : (Value.slice A xs.length c).ownBlock = some g \/ g = (w1.alloc o).heap.size) :
    RowB R S lo (xs ++ [x]) (some ⟨g, 0, none⟩) cap w3 /\ (∀ b, (Value.slice A xs.length c).ownBlock ≠ some b -> b < w1.heap.size -> w3.heap[b]? = w1.heap[b]?) /\ w1.heap.size <= w3.heap.size := by
  have hsz : (w1.alloc o).heap.size = w1.heap.size + 1 := by simp
  have hsz3 := hgrow.size
  have hold : ∀ b, b < w1.heap.size -> (Value.slice A xs.length c).ownBlock ≠ some b -> w3.heap[b]? = w1.heap[b]? := fun b hb hne => by
    rw [hgrow.block b (by omega) (fun e => hne e.symm)];exact Lib.alloc_old w1 o b hb
  have mv : ∀ l x, R.E (strike (fun b => S b \/ (Value.slice A xs.length c).ownBlock = some b) w1) l x -> R.E (strike (fun b => S b \/ (Value.slice (some ⟨g, 0, none⟩) (xs ++ [x]).length cap).ownBlock = some b) w3) l x := fun l x hT => by
    refine R.move _ _ _ _ _ _ hT (by omega) fun b hb hS => ⟨?_, hold b hb (fun e => hS (.inr e))⟩
    rintro (e | e)
    · exact hS (.inl e)
    · simp [Value.ownBlock] at e
      subst e;rcases hat with e | e
      · exact hS (.inr e)
      · omega
  have hT : R.E (strike (fun b => S b \/ (Value.slice A xs.length c).ownBlock = some b) w1) l x := R.move _ _ _ _ _ _ hE (Nat.le_refl _) fun b hlt hS => ⟨fun e => hS (hS' b e), rfl⟩
  refine ⟨⟨C ++ [l], by simp [hC1], ?_, fun i y u hy hu => ?_⟩, fun b hb hlt => hold b hlt hb, by omega⟩
  · rw [List.length_append]
    simpa using hown
  · rcases Nat.lt_or_ge i xs.length with hi | hi
    · rw [List.getElem?_append_left (by omega)] at hy hu
      have := mv y u (hC4 i y u hy hu)
      simpa [Value.ownBlock] using this
    · have hi' := (List.getElem?_eq_some_iff.1 hy).1
      have : i = xs.length := by simp [hC1] at hi'; omega
      subst this;rw [List.getElem?_append_right (by omega)] at hy hu;simp [hC1] at hy;simp at hu;rw [<- hy, <- hu];have := mv l x hT
      simpa [Value.ownBlock] using this
theorem rowB_more {α : Type} {R : Reads α} {S S' : Nat -> Prop} {lo d g cap c : Nat} {xs : List α} {A : Option Addr} {w1 w3 : World} {o : Obj} {l : List Value} {x : α} {C : List (List Value)} {old : Array Value} {T : TypeId} {k : Nat}
    (h : RowB R S lo xs A c w1) (hS' : ∀ b, S b \/ (Value.slice A xs.length c).ownBlock = some b -> S' b) (hSs : ∀ b, S b -> b < w1.heap.size)
    (hC1 : C.length = xs.length) (hC4 : ∀ (i : Nat) (l : List Value) (x : α), C[i]? = some l -> xs[i]? = some x -> R.E (strike (fun b => S b \/ (Value.slice A xs.length c).ownBlock = some b) w1) l x)
    (hE : R.E (strike S' w1) l x) (hown : w3.ownsRow lo R.T R.k (.slice (some ⟨g, 0, none⟩) (xs.length + 1) cap) (xs.length + 1) (C.flatten ++ l)) (hgrow : (w1.alloc o).grownBy w3 (Value.slice A xs.length c).ownBlock)
    (hat : (Value.slice A xs.length c).ownBlock = some g \/ g = (w1.alloc o).heap.size) (hd : d < lo) (hSd : S d) (hbox : w1.heap[d]? = some (.cells old T (0, 0))) (hk : old[k]? = some (.slice A xs.length c)) :
    RowB R S lo (xs ++ [x]) (some ⟨g, 0, none⟩) cap (w3.setCell ⟨d, k, none⟩ (.slice (some ⟨g, 0, none⟩) (xs.length + 1) cap)) /\
    (w3.setCell ⟨d, k, none⟩ (.slice (some ⟨g, 0, none⟩) (xs.length + 1) cap)).heap[d]? = some (.cells (old.setIfInBounds k (.slice (some ⟨g, 0, none⟩) (xs.length + 1) cap)) T (0, 0)) /\
    (∀ b, (Value.slice A xs.length c).ownBlock ≠ some b -> b ≠ d -> b < w1.heap.size -> (w3.setCell ⟨d, k, none⟩ (.slice (some ⟨g, 0, none⟩) (xs.length + 1) cap)).heap[b]? = w1.heap[b]?) /\
    (∀ m, m <= d -> Below m w1 (w3.setCell ⟨d, k, none⟩ (.slice (some ⟨g, 0, none⟩) (xs.length + 1) cap))) /\
    w3.cell? ⟨d, k, none⟩ = some (.slice A xs.length c) /\ w3.frozen? ⟨d, k, none⟩ = false /\ w1.heap.size <= (w3.setCell ⟨d, k, none⟩ (.slice (some ⟨g, 0, none⟩) (xs.length + 1) cap)).heap.size := by
  obtain ⟨R3, old3, hs3⟩ := RowB.more hS' hSs hC1 hC4 hE hown hgrow hat;have hlow : ∀ b, (Value.slice A xs.length c).ownBlock = some b -> lo <= b := fun b e => (h.lt e).1
  have hd1 : d < w1.heap.size := (Array.getElem?_eq_some_iff.1 hbox).1;have B3 := (old3 d (fun e => by have := hlow d e; omega) hd1).trans hbox;have ot : ∀ b, b ≠ d -> (w3.setCell ⟨d, k, none⟩ (.slice (some ⟨g, 0, none⟩) (xs.length + 1) cap)).heap[b]? = w3.heap[b]? := fun b hb => Below.heap_setCell _ _ _ _ (by show b ≠ d; exact hb)
  have of : ∀ b, (Value.slice A xs.length c).ownBlock ≠ some b -> b ≠ d -> b < w1.heap.size -> (w3.setCell ⟨d, k, none⟩ (.slice (some ⟨g, 0, none⟩) (xs.length + 1) cap)).heap[b]? = w1.heap[b]? := fun b hb hne hlt => (ot b hne).trans (old3 b hb hlt)
  have hgo : lo <= g \/ True := .inr trivial;refine ⟨R3.keep (by simp) (fun b hb => ot b (fun e => ?_)) (fun b h1 h2 h3 => ⟨h1, ot b (fun e => h1 (e ▸ hSd))⟩), Joins.block_setCell (i := k) B3 _, of, fun m hm => ?_, ?_, Lib.frozen_of_heap B3 k, by simp; omega⟩
  · subst e
    have := (R3.lt hb).1
    omega
  · have hgw := hgrow
    exact ⟨hgw.os.trans rfl, hgw.tape.trans rfl, hgw.output.trans rfl, by simp; omega, fun j hj => of j (fun e => by have := hlow j e; omega) (by omega) (by omega)⟩
  · rw [cZ B3 k]; exact hk
structure CmI (w0 w : World) (kd : Int) (ns : List ByteArray) (xs : List Ty) (A5 : Option Addr) (c5 : Nat) (A6 : Option Addr) (c6 : Nat) (bx lo : Nat) (wr : World) : Prop where
  below : Below w.heap.size w wr
  size : lo <= wr.heap.size
  box : wr.heap[bx]? = some (.cells #[.int .i64 kd, .string ⟨#[]⟩, .int .i64 0, .string ⟨#[]⟩, .string ⟨#[]⟩, .slice A5 ns.length c5, .slice A6 xs.length c6] 45 (0, 0))
  names : RowB stR (fun k => k < lo) lo ns A5 c5 wr
  types : RowB tR (fun k => (w0.heap.size <= k /\ k < lo) \/ (Value.slice A5 ns.length c5).ownBlock = some k) lo xs A6 c6 wr
  apart : ∀ b, (Value.slice A5 ns.length c5).ownBlock = some b -> (Value.slice A6 xs.length c6).ownBlock ≠ some b
structure BuI (w : World) (bx : Nat) (p : ByteArray) (j : Int) (d : ByteArray) (T V : List Nm) (At : Option Addr) (ct : Nat) (Av : Option Addr) (cv : Nat) (wr : World) : Prop where
  below : Below w.heap.size w wr
  size : bx + 1 <= wr.heap.size
  box : wr.heap[bx]? = some (.cells #[.string p, .int .i64 j, .string d, .slice At T.length ct, .slice Av V.length cv] 32 (0, 0))
  types : RowB nmR (fun k => k < bx + 1 \/ (Value.slice Av V.length cv).ownBlock = some k) (bx + 1) T At ct wr
  vals : RowB nmR (fun k => k < bx + 1 \/ (Value.slice At T.length ct).ownBlock = some k) (bx + 1) V Av cv wr
  apart : ∀ b, (Value.slice At T.length ct).ownBlock = some b -> (Value.slice Av V.length cv).ownBlock ≠ some b
theorem BuI.keep {w : World} {bx : Nat} {p : ByteArray} {j : Int} {d : ByteArray} {T V : List Nm} {At : Option Addr} {ct : Nat} {Av : Option Addr} {cv : Nat} {wr wr' : World} (h : BuI w bx p j d T V At ct Av cv wr) (hb : Below wr.heap.size wr wr') : BuI w bx p j d T V At ct Av cv wr' :=
  ⟨below_over h.below hb, Nat.le_trans h.size hb.size, (hb.block _ (by have := h.size; omega)).trans h.box,
    h.types.keep hb.size (fun b hb' => hb.block _ (h.types.lt hb').2) (fun b h1 h2 h3 => ⟨h1, hb.block _ h3⟩),
    h.vals.keep hb.size (fun b hb' => hb.block _ (h.vals.lt hb').2) (fun b h1 h2 h3 => ⟨h1, hb.block _ h3⟩), h.apart⟩
theorem BuI.type {w : World} {bx : Nat} {p : ByteArray} {j : Int} {d : ByteArray} {T V : List Nm} {At : Option Addr} {ct : Nat} {Av : Option Addr} {cv : Nat} {wr w3 : World} {g cap B : Nat} {o : Obj} {l : List Value} {x : Nm} {C : List (List Value)} (h : BuI w bx p j d T V At ct Av cv wr) (hw : w.heap.size <= bx)
    (hE : nmE (strike (fun k => k < B) wr) l x) (hB : bx + 1 <= B) (hBs : B <= wr.heap.size) (hBt : ∀ b, (Value.slice At T.length ct).ownBlock = some b -> b < B) (hBv : ∀ b, (Value.slice Av V.length cv).ownBlock = some b -> b < B)
    (hC1 : C.length = T.length) (hC4 : ∀ (i : Nat) (l : List Value) (x : Nm), C[i]? = some l -> T[i]? = some x -> nmR.E (strike (fun b => (b < bx + 1 \/ (Value.slice Av V.length cv).ownBlock = some b) \/ (Value.slice At T.length ct).ownBlock = some b) wr) l x)
    (hown : w3.ownsRow (bx + 1) 49 8 (.slice (some ⟨g, 0, none⟩) (T.length + 1) cap) (T.length + 1) (C.flatten ++ l)) (hgrow : (wr.alloc o).grownBy w3 (Value.slice At T.length ct).ownBlock) (hat : (Value.slice At T.length ct).ownBlock = some g \/ g = (wr.alloc o).heap.size) :
    BuI w bx p j d (T ++ [x]) V (some ⟨g, 0, none⟩) cap Av cv (w3.setCell ⟨bx, 3, none⟩ (.slice (some ⟨g, 0, none⟩) (T.length + 1) cap)) /\
    (∀ m, m <= bx -> Below m wr (w3.setCell ⟨bx, 3, none⟩ (.slice (some ⟨g, 0, none⟩) (T.length + 1) cap))) /\
    w3.cell? ⟨bx, 3, none⟩ = some (.slice At T.length ct) /\ w3.frozen? ⟨bx, 3, none⟩ = false := by
  have hz := h.size
  obtain ⟨R9, Y9, old9, bel9, z9, e9, s9⟩ := rowB_more (R := nmR) (S' := fun k => k < B) (k := 3) h.types (fun b hb => by
    rcases hb with (hb | hb) | hb
    · show b < B; omega
    · exact hBv b hb
    · exact hBt b hb) (fun b hb => by
    rcases hb with hb | hb
    · omega
    · exact (h.vals.lt hb).2) hC1 hC4 (l := l) hE hown hgrow hat (Nat.lt_succ_self bx) (.inl (Nat.lt_succ_self bx)) h.box rfl
  have hg : (Value.slice At T.length ct).ownBlock = some g \/ wr.heap.size < g := by
    rcases hat with e | e
    · exact .inl e
    · exact .inr (by rw [e]; simp)
  refine ⟨⟨h.below.trans (bel9 _ hw), by omega, by rw [List.length_append]; exact Y9, R9, ?_, ?_⟩, bel9, z9, e9⟩
  · refine h.vals.keep s9 (fun b hb => old9 b (fun e => h.apart b e hb) (fun e => ?_) (h.vals.lt hb).2) (fun b h1 h2 h3 => ⟨?_, old9 b (fun e => h1 (.inr e)) (fun e => h1 (.inl (by omega))) h3⟩)
    · have := (h.vals.lt hb).1; omega
    · rintro (e | e)
      · exact h1 (.inl e)
      · simp [Value.ownBlock] at e
        subst e;rcases hg with e | e
        · exact h1 (.inr e)
        · omega
  · intro b hb e
    simp [Value.ownBlock] at hb;subst hb;rcases hg with e' | e'
    · exact h.apart _ e' e
    · have := (h.vals.lt e).2; omega
theorem BuI.val {w : World} {bx : Nat} {p : ByteArray} {j : Int} {d : ByteArray} {T V : List Nm} {At : Option Addr} {ct : Nat} {Av : Option Addr} {cv : Nat} {wr w3 : World} {g cap B : Nat} {o : Obj} {l : List Value} {x : Nm} {C : List (List Value)} (h : BuI w bx p j d T V At ct Av cv wr) (hw : w.heap.size <= bx)
    (hE : nmE (strike (fun k => k < B) wr) l x) (hB : bx + 1 <= B) (hBs : B <= wr.heap.size) (hBt : ∀ b, (Value.slice At T.length ct).ownBlock = some b -> b < B) (hBv : ∀ b, (Value.slice Av V.length cv).ownBlock = some b -> b < B)
    (hC1 : C.length = V.length) (hC4 : ∀ (i : Nat) (l : List Value) (x : Nm), C[i]? = some l -> V[i]? = some x -> nmR.E (strike (fun b => (b < bx + 1 \/ (Value.slice At T.length ct).ownBlock = some b) \/ (Value.slice Av V.length cv).ownBlock = some b) wr) l x)
    (hown : w3.ownsRow (bx + 1) 49 8 (.slice (some ⟨g, 0, none⟩) (V.length + 1) cap) (V.length + 1) (C.flatten ++ l)) (hgrow : (wr.alloc o).grownBy w3 (Value.slice Av V.length cv).ownBlock) (hat : (Value.slice Av V.length cv).ownBlock = some g \/ g = (wr.alloc o).heap.size) :
    BuI w bx p j d T (V ++ [x]) At ct (some ⟨g, 0, none⟩) cap (w3.setCell ⟨bx, 4, none⟩ (.slice (some ⟨g, 0, none⟩) (V.length + 1) cap)) /\
    (∀ m, m <= bx -> Below m wr (w3.setCell ⟨bx, 4, none⟩ (.slice (some ⟨g, 0, none⟩) (V.length + 1) cap))) /\
    w3.cell? ⟨bx, 4, none⟩ = some (.slice Av V.length cv) /\ w3.frozen? ⟨bx, 4, none⟩ = false := by
  have hz := h.size
  obtain ⟨R9, Y9, old9, bel9, z9, e9, s9⟩ := rowB_more (R := nmR) (S' := fun k => k < B) (k := 4) h.vals (fun b hb => by
    rcases hb with (hb | hb) | hb
    · show b < B; omega
    · exact hBt b hb
    · exact hBv b hb) (fun b hb => by
    rcases hb with hb | hb
    · omega
    · exact (h.types.lt hb).2) hC1 hC4 (l := l) hE hown hgrow hat (Nat.lt_succ_self bx) (.inl (Nat.lt_succ_self bx)) h.box rfl
  have hg : (Value.slice Av V.length cv).ownBlock = some g \/ wr.heap.size < g := by
    rcases hat with e | e
    · exact .inl e
    · exact .inr (by rw [e]; simp)
  refine ⟨⟨h.below.trans (bel9 _ hw), by omega, by rw [List.length_append]; exact Y9, ?_, R9, ?_⟩, bel9, z9, e9⟩
  · refine h.types.keep s9 (fun b hb => old9 b (fun e => h.apart b hb e) (fun e => ?_) (h.types.lt hb).2) (fun b h1 h2 h3 => ⟨?_, old9 b (fun e => h1 (.inr e)) (fun e => h1 (.inl (by omega))) h3⟩)
    · have := (h.types.lt hb).1; omega
    · rintro (e | e)
      · exact h1 (.inl e)
      · simp [Value.ownBlock] at e
        subst e;rcases hg with e | e
        · exact h1 (.inr e)
        · omega
  · intro b hb e
    simp [Value.ownBlock] at e;subst e;rcases hg with e' | e'
    · exact h.apart _ hb e'
    · have := (h.types.lt hb).2; omega
end Go.Proofs.YtcdmgcgjonndpaaGreatDoor
