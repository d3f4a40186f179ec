/-
  Several texts in one.
-/
import Derived.Test.YteecgiebimdbhaaGreatDoorK00
import Derived.ProofKit
import Derived.OpenShut
import Derived.Lib.SmallJoins
import Derived.Deep.Slices
import Derived.Deep.Strs
import Derived.DataReads
import Derived.WideShapes
import Derived.SliceStrings
import Derived.WalkSpells
import Derived.WalkLawsBesides
import Derived.RegionTactic
import Derived.LoopTactic
import Derived.OwnWalk
import Derived.Lib.Builder
import Derived.OneCell
import Derived.Deep.AppendLies
import Derived.Laws.OwnMore
set_option maxHeartbeats 1000000
namespace Go.Proofs.YteecgiebimdbhaaGreatDoor.M
open Go
structure Toks where
 n : Nat
 K : Nat -> Int
 T : Nat -> ByteArray
inductive Res (α : Type) where
 | ok (x : α) (i c : Nat)
 | err (b i : Nat)
namespace Toks
variable (S : Toks)
def small (i : Nat) : Bool := decide (i < S.n) && (S.K i == 1) && smallB (S.T i).data.toList
def great (i : Nat) : Bool := decide (i < S.n) && (S.K i == 2) && greatB (S.T i).data.toList
def sign (i : Nat) (l : List UInt8) : Bool := decide (i < S.n) && (S.K i == 4) && ((S.T i).data.toList == l)
end Toks
def Toks.nameOk (S : Toks) (k : Int) (i : Nat) : Bool := if k = 5 then S.small i else S.great i
def baseT (l : List UInt8) : Int := if l = [73, 110, 116] then 1 else if l = [84, 101, 120, 116] then 2 else if l = [66, 111, 111, 108] then 3 else if l = [76, 105, 115, 116] then 4 else 0
def Toks.begins (S : Toks) (i : Nat) : Bool :=
 decide (i < S.n) && (S.small i || S.great i || ((S.K i == 4) && ((S.T i).data.toList == [123] || (S.T i).data.toList == [91] || (S.T i).data.toList == [40] || (S.T i).data.toList == [60])) || ((S.K i == 2) && decide (0 < baseT (S.T i).data.toList)))
def digs : List UInt8 -> Int -> Int
 | [], a => a
 | c :: r, a => digs r (10 * a + ((c.toNat : Int) - 48))
def majorOk (l : List UInt8) : Bool := decide (1 <= l.length) && decide (l.length <= 9) && l.all (fun c => digC (c.toNat : Int)) && decide (48 < bt l 0)
def Toks.major (S : Toks) (i : Nat) : Bool := decide (i < S.n) && (S.K i == 3) && majorOk (S.T i).data.toList
def posOf (s : ByteArray) (ns : List ByteArray) : Nat -> Nat
 | 0 => 0
 | k + 1 => if Op.bytesLess s.toList (nameAt ns k).toList = true then posOf s ns k else k + 1
def putAt {α : Type} (p : Nat) (x : α) (l : List α) : List α := l.take p ++ x :: l.drop p
def twice (s : ByteArray) (ns : List ByteArray) : Bool := ns.any fun x => x.data.toList == s.data.toList
def noT : Ty := .mk 0 ⟨#[]⟩ 0 ⟨#[]⟩ ⟨#[]⟩ [] []
def leafK (k : Int) : Ty := .mk k ⟨#[]⟩ 0 ⟨#[]⟩ ⟨#[]⟩ [] []
def localT (d n : ByteArray) : Ty := .mk 8 ⟨#[]⟩ 0 d n [] []
def pOpen (S : Toks) (i c : Nat) : Res Ty :=
 if S.small i = false then .err 2 i
 else if S.major (i + 1) = false then .err 2 (i + 1)
 else if S.small (i + 2) = false then .err 2 (i + 2)
 else if S.great (i + 3) = false then .err 2 (i + 3)
 else if S.sign (i + 4) [62] = false then .err 2 (i + 4)
 else .ok (.mk 9 (S.T i) (digs (S.T (i + 1)).data.toList 0) (S.T (i + 2)) (S.T (i + 3)) [] []) (i + 5) c
def pLocal (S : Toks) (d : ByteArray) (i c : Nat) : Res Ty :=
 if S.sign i [46] = false then .err 2 i
 else if S.great (i + 1) = false then .err 2 (i + 1)
 else .ok (localT d (S.T (i + 1))) (i + 2) c
mutual
def pT (S : Toks) : Nat -> Nat -> Nat -> Nat -> Res Ty
  | 0, _, _, _ => .err 99 0
  | f + 1, d, i, c =>
    if S.begins i = false then .err 2 i
    else if 32 < d \/ 500 <= c then .err 3 i
    else if S.K i = 1 then pLocal S (S.T i) (i + 1) (c + 1)
    else if S.K i = 2 then
      (if baseT (S.T i).data.toList = 4 then
        (if S.sign (i + 1) [40] = false then .err 2 (i + 1)
         else match pT S f (d + 1) (i + 2) (c + 1) with
          | .err b j => .err b j
          | .ok s j c' => if S.sign j [41] = false then .err 2 j else .ok (.mk 4 ⟨#[]⟩ 0 ⟨#[]⟩ ⟨#[]⟩ [] [s]) (j + 1) c')
       else if 0 < baseT (S.T i).data.toList then .ok (leafK (baseT (S.T i).data.toList)) (i + 1) (c + 1)
       else .ok (localT ⟨#[]⟩ (S.T i)) (i + 1) (c + 1))
    else if (S.T i).data.toList = [123] then (if S.sign (i + 1) [125] = true then .ok (leafK 5) (i + 2) (c + 1) else pParts S 5 [125] f d (i + 1) (c + 1) [] [])
    else if (S.T i).data.toList = [91] then pParts S 6 [93] f d (i + 1) (c + 1) [] []
    else if (S.T i).data.toList = [60] then pOpen S (i + 1) (c + 1)
    else if S.sign (i + 1) [41] = true then pEnd S f d (i + 2) (c + 1) []
    else pSubs S f d (i + 1) (c + 1) []
def pParts (S : Toks) (k : Int) (z : List UInt8) : Nat -> Nat -> Nat -> Nat -> List ByteArray -> List Ty -> Res Ty
  | 0, _, _, _, _, _ => .err 99 0
  | f + 1, d, i, c, ns, ss =>
    if S.nameOk k i = false then .err 2 i
    else if 20 <= ns.length then .err 3 i
    else if twice (S.T i) ns = true then .err 5 i
    else if S.sign (i + 1) [58] = false then .err 2 (i + 1)
    else match pT S f (d + 1) (i + 2) c with
      | .err b j => .err b j
      | .ok s j c' =>
        if S.sign j z = true then .ok (.mk k ⟨#[]⟩ 0 ⟨#[]⟩ ⟨#[]⟩ (putAt (posOf (S.T i) ns ns.length) (S.T i) ns) (putAt (posOf (S.T i) ns ns.length) s ss)) (j + 1) c'
        else if S.sign j [44] = false then .err 2 j
        else pParts S k z f d (j + 1) c' (putAt (posOf (S.T i) ns ns.length) (S.T i) ns) (putAt (posOf (S.T i) ns ns.length) s ss)
def pSubs (S : Toks) : Nat -> Nat -> Nat -> Nat -> List Ty -> Res Ty
  | 0, _, _, _, _ => .err 99 0
  | f + 1, d, i, c, ss =>
    if S.begins i = true /\ 20 <= ss.length then .err 3 i
    else match pT S f (d + 1) i c with
      | .err b j => .err b j
      | .ok s j c' =>
        if S.sign j [41] = true then pEnd S f d (j + 1) c' (ss ++ [s])
        else if S.sign j [44] = false then .err 2 j
        else pSubs S f d (j + 1) c' (ss ++ [s])
def pEnd (S : Toks) : Nat -> Nat -> Nat -> Nat -> List Ty -> Res Ty
  | 0, _, _, _, _ => .err 99 0
  | f + 1, d, i, c, ss =>
    if S.sign i [45, 62] = false then .err 2 i
    else if S.begins (i + 1) = true /\ 20 <= ss.length then .err 3 (i + 1)
    else match pT S f (d + 1) (i + 1) c with
      | .err b j => .err b j
      | .ok s j c' => .ok (.mk 7 ⟨#[]⟩ 0 ⟨#[]⟩ ⟨#[]⟩ [] (ss ++ [s])) j c'
end
def Res.far {α : Type} : Res α -> Nat -> Prop
 | .ok _ j _, i => i < j
 | .err b _, _ => b ≠ 99
theorem sign_lt {S : Toks} {i : Nat} {l : List UInt8} (h : S.sign i l = true) : i < S.n := by
 unfold Toks.sign at h; simp only [Bool.and_eq_true, decide_eq_true_eq] at h; exact h.1.1
theorem small_lt {S : Toks} {i : Nat} (h : S.small i = true) : i < S.n := by
 unfold Toks.small at h; simp only [Bool.and_eq_true, decide_eq_true_eq] at h; exact h.1.1
theorem great_lt {S : Toks} {i : Nat} (h : S.great i = true) : i < S.n := by
 unfold Toks.great at h; simp only [Bool.and_eq_true, decide_eq_true_eq] at h; exact h.1.1
theorem begins_lt {S : Toks} {i : Nat} (h : S.begins i = true) : i < S.n := by
 unfold Toks.begins at h; simp only [Bool.and_eq_true, decide_eq_true_eq] at h; exact h.1
theorem pOpen_far (S : Toks) (i c k : Nat) (h : k <= i) : (pOpen S i c).far k := by
 unfold pOpen
 split
 ·exact (by decide : (2 : Nat) ≠ 99)
 split
 ·exact (by decide : (2 : Nat) ≠ 99)
 split
 ·exact (by decide : (2 : Nat) ≠ 99)
 split
 ·exact (by decide : (2 : Nat) ≠ 99)
 split
 ·exact (by decide : (2 : Nat) ≠ 99)
 ·show k < i + 5; omega
theorem pLocal_far (S : Toks) (d : ByteArray) (i c k : Nat) (h : k <= i) : (pLocal S d i c).far k := by
 unfold pLocal
 split
 ·exact (by decide : (2 : Nat) ≠ 99)
 split
 ·exact (by decide : (2 : Nat) ≠ 99)
 ·show k < i + 2; omega
theorem two : (2 : Nat) ≠ 99 := by decide
theorem three : (3 : Nat) ≠ 99 := by decide
theorem five : (5 : Nat) ≠ 99 := by decide
theorem steps (S : Toks) : ∀ f, (∀ d i c, 2 * (S.n - i) + 1 <= f -> (pT S f d i c).far i) /\ (∀ k z d i c ns ss, 2 * (S.n - i) + 2 <= f -> (pParts S k z f d i c ns ss).far i) /\
  (∀ d i c ss, 2 * (S.n - i) + 2 <= f -> (pSubs S f d i c ss).far i) /\ (∀ d i c ss, 2 * (S.n - i) + 2 <= f -> (pEnd S f d i c ss).far i) := by
 intro f
 induction f with
 | zero => exact ⟨fun d i c h => by omega, fun k z d i c ns ss h => by omega, fun d i c ss h => by omega, fun d i c ss h => by omega⟩
 | succ f ih =>
  obtain ⟨iT, iP, iS, iE⟩ := ih
  have far_mono : ∀ {r : Res Ty} {i j : Nat}, i <= j -> r.far j -> r.far i := fun {r i j} hij h => by
   cases r with
   | ok x a b => exact Nat.lt_of_le_of_lt hij h
   | err a b => exact h
  refine ⟨fun d i c h => ?_, fun k z d i c ns ss h => ?_, fun d i c ss h => ?_, fun d i c ss h => ?_⟩
  ·unfold pT
   split
   ·exact two
   rename_i hb
   have hlt := begins_lt (by simpa using hb);split
   ·exact three
   split
   ·exact pLocal_far _ _ _ _ _ (by omega)
   split
   ·split
    ·split
     ·exact two
     ·have h1 := iT (d + 1) (i + 2) (c + 1) (by omega)
      cases e : pT S f (d + 1) (i + 2) (c + 1) with
      | err b j => rw [e] at h1; exact h1
      | ok s j c' =>
       rw [e] at h1;have h1' : i + 2 < j := h1
       show Res.far (if _ then _ else _) i
       split
       ·exact two
       ·show i < j + 1; omega
    split
    ·show i < i + 1; omega
    ·show i < i + 1; omega
   split
   ·split
    ·show i < i + 2; omega
    ·exact far_mono (by omega) (iP _ _ _ (i + 1) _ _ _ (by omega))
   split
   ·exact far_mono (by omega) (iP _ _ _ (i + 1) _ _ _ (by omega))
   split
   ·exact pOpen_far _ _ _ _ (by omega)
   split
   ·rename_i hs
    have := sign_lt hs
    exact far_mono (by omega) (iE _ (i + 2) _ _ (by omega))
   ·exact far_mono (by omega) (iS _ (i + 1) _ _ (by omega))
  ·unfold pParts
   split
   ·exact two
   rename_i hb
   have hlt : i < S.n := by
    unfold Toks.nameOk at hb
    by_cases hk : k = 5
    ·rw [if_pos hk] at hb; exact small_lt (by simpa using hb)
    ·rw [if_neg hk] at hb; exact great_lt (by simpa using hb)
   split
   ·exact three
   split
   ·exact five
   split
   ·exact two
   ·have h1 := iT (d + 1) (i + 2) c (by omega)
    cases e : pT S f (d + 1) (i + 2) c with
    | err b j => rw [e] at h1; exact h1
    | ok s j c' =>
     rw [e] at h1;have h1' : i + 2 < j := h1
     show Res.far (if _ then _ else _) i
     split
     ·show i < j + 1; omega
     split
     ·exact two
     ·rename_i hs
      have := sign_lt (by simpa using hs)
      exact far_mono (by omega) (iP _ _ _ (j + 1) _ _ _ (by omega))
  ·unfold pSubs
   split
   ·exact three
   ·have h1 := iT (d + 1) i c (by omega)
    cases e : pT S f (d + 1) i c with
    | err b j => rw [e] at h1; exact h1
    | ok s j c' =>
     rw [e] at h1;have h1' : i < j := h1
     show Res.far (if _ then _ else _) i
     split
     ·rename_i hs
      have := sign_lt hs
      exact far_mono (by omega) (iE _ (j + 1) _ _ (by omega))
     split
     ·exact two
     ·rename_i hs
      have := sign_lt (by simpa using hs)
      exact far_mono (by omega) (iS _ (j + 1) _ _ (by omega))
  ·unfold pEnd
   split
   ·exact two
   rename_i hs
   have hlt := sign_lt (by simpa using hs);split
   ·exact three
   ·have h1 := iT (d + 1) (i + 1) c (by omega)
    cases e : pT S f (d + 1) (i + 1) c with
    | err b j => rw [e] at h1; exact h1
    | ok s j c' =>
     rw [e] at h1;have h1' : i + 1 < j := h1
     show i < j; omega
end Go.Proofs.YteecgiebimdbhaaGreatDoor.M
namespace Go.Proofs.YteecgiebimdbhaaGreatDoor
open Go Go.ChangeShapes Go.WideShapes Go.ChangeAt Go.RowKit Go.Joins Go.Deep
open M
def NamesAt (w : World) (A : Option Addr) (l : List ByteArray) : Prop :=
 ∀ i s, l[i]? = some s -> ∃ g o, A = some ⟨g, o, none⟩ /\ g < w.heap.size /\ w.cell? ⟨g, o + i, none⟩ = some (.string s) /\ s.size <= 9223372036854775807
inductive TyAt (w : World) : List Value -> Ty -> Prop where
 | mk (kind : Int) (pkg : ByteArray) (major : Int) (mod name : ByteArray) (names : List ByteArray) (subs : List Ty) (An : Option Addr) (cn : Nat) (As : Option Addr) (cs : Nat) (C : Nat -> List Value)
   (hp : pkg.size <= 9223372036854775807) (hm : mod.size <= 9223372036854775807) (hn : name.size <= 9223372036854775807) (hln : names.length <= 9223372036854775807) (hls : subs.length <= 9223372036854775807) (hcs : subs.length <= cs)
   (hN : NamesAt w An names) (hl : ∀ i, (C i).length = 7)
   (hS : ∀ i t, subs[i]? = some t -> ∃ g o, As = some ⟨g, o, none⟩ /\ g < w.heap.size /\ ∀ j v, (C i)[j]? = some v -> w.cell? ⟨g, o + i * 7 + j, none⟩ = some v)
   (hT : ∀ i t, subs[i]? = some t -> TyAt w (C i) t) :
   TyAt w [.int .i64 kind, .string pkg, .int .i64 major, .string mod, .string name, .slice An names.length cn, .slice As subs.length cs] (.mk kind pkg major mod name names subs)
theorem NamesAt.below {w w' : World} {A : Option Addr} {l : List ByteArray} (h : NamesAt w A l) (hb : Below w.heap.size w w') : NamesAt w' A l := by
 intro i s hs
 obtain ⟨g, o, hA, hg, hc, hz⟩ := h i s hs
 exact ⟨g, o, hA, Nat.lt_of_lt_of_le hg hb.size, (hb.cell (p := ⟨g, _, none⟩) hg).trans hc, hz⟩
theorem TyAt.keep {w w' : World} (hb : Below w.heap.size w w') {l : List Value} {t : Ty} (h : TyAt w l t) : TyAt w' l t := by
 induction h with
 | mk kind pkg major mod name names subs An cn As cs C hp hm hn hln hls hcs hN hl hS hT ih =>
  refine .mk kind pkg major mod name names subs An cn As cs C hp hm hn hln hls hcs (hN.below hb) hl (fun i t ht => ?_) ih;obtain ⟨g, o, hA, hg, hc⟩ := hS i t ht;exact ⟨g, o, hA, Nat.lt_of_lt_of_le hg hb.size, fun j v hv => (hb.cell (p := ⟨g, _, none⟩) hg).trans (hc j v hv)⟩
def SubsAt (w : World) (A : Option Addr) (l : List Ty) : Prop :=
 ∀ i t, l[i]? = some t -> ∃ (g o : Nat) (v0 v1 v2 v3 v4 v5 v6 : Value), A = some ⟨g, o, none⟩ /\ g < w.heap.size /\ w.cell? ⟨g, o + i * 7, none⟩ = some v0 /\ w.cell? ⟨g, o + i * 7 + 1, none⟩ = some v1 /\ w.cell? ⟨g, o + i * 7 + 2, none⟩ = some v2 /\
  w.cell? ⟨g, o + i * 7 + 3, none⟩ = some v3 /\ w.cell? ⟨g, o + i * 7 + 4, none⟩ = some v4 /\ w.cell? ⟨g, o + i * 7 + 5, none⟩ = some v5 /\ w.cell? ⟨g, o + i * 7 + 6, none⟩ = some v6 /\ TyAt w [v0, v1, v2, v3, v4, v5, v6] t
theorem SubsAt.below {w w' : World} {A : Option Addr} {l : List Ty} (h : SubsAt w A l) (hb : Below w.heap.size w w') : SubsAt w' A l := by
 intro i t ht
 obtain ⟨g, o, v0, v1, v2, v3, v4, v5, v6, hA, hg, h0, h1, h2, h3, h4, h5, h6, hT⟩ := h i t ht
 have e : ∀ k v, w.cell? ⟨g, k, none⟩ = some v -> w'.cell? ⟨g, k, none⟩ = some v := fun k v hv => (hb.cell (p := ⟨g, _, none⟩) hg).trans hv
 exact ⟨g, o, v0, v1, v2, v3, v4, v5, v6, hA, Nat.lt_of_lt_of_le hg hb.size, e _ _ h0, e _ _ h1, e _ _ h2, e _ _ h3, e _ _ h4, e _ _ h5, e _ _ h6, hT.keep hb⟩
theorem list7 {α : Type} : ∀ l : List α, l.length = 7 -> ∃ a b c d e f g, l = [a, b, c, d, e, f, g]
 | [a, b, c, d, e, f, g], _ => ⟨a, b, c, d, e, f, g, rfl⟩
 | [], h => by simp at h
 | [_], h => by simp at h
 | [_, _], h => by simp at h
 | [_, _, _], h => by simp at h
 | [_, _, _, _], h => by simp at h
 | [_, _, _, _, _], h => by simp at h
 | [_, _, _, _, _, _], h => by simp at h
 | _ :: _ :: _ :: _ :: _ :: _ :: _ :: _ :: _, h => by simp at h
theorem TyAt.parts {w : World} {l : List Value} {t : Ty} (h : TyAt w l t) : ∃ (An : Option Addr) (cn : Nat) (As : Option Addr) (cs : Nat),
  l = [.int .i64 t.kind, .string t.pkg, .int .i64 t.major, .string t.mod, .string t.name, .slice An t.names.length cn, .slice As t.subs.length cs] /\
  t.pkg.size <= 9223372036854775807 /\ t.mod.size <= 9223372036854775807 /\ t.name.size <= 9223372036854775807 /\ t.names.length <= 9223372036854775807 /\ t.subs.length <= 9223372036854775807 /\ NamesAt w An t.names /\ SubsAt w As t.subs := by
 cases h with
 | mk kind pkg major mod name names subs An cn As cs C hp hm hn hln hls hcs hN hl hS hT =>
  refine ⟨An, cn, As, cs, rfl, hp, hm, hn, hln, hls, hN, fun i t ht => ?_⟩;obtain ⟨g, o, hA, hg, hc⟩ := hS i t ht;have h7 := hT i t ht;obtain ⟨v0, v1, v2, v3, v4, v5, v6, e⟩ := list7 (C i) (hl i);rw [e] at hc h7;exact ⟨g, o, v0, v1, v2, v3, v4, v5, v6, hA, hg, hc 0 _ rfl, hc 1 _ rfl, hc 2 _ rfl, hc 3 _ rfl, hc 4 _ rfl, hc 5 _ rfl, hc 6 _ rfl, h7⟩
theorem TyAt.cap {w : World} {v0 v1 v2 v3 v4 v5 : Value} {As : Option Addr} {n cs : Nat} {t : Ty} (h : TyAt w [v0, v1, v2, v3, v4, v5, .slice As n cs] t) : t.subs.length <= cs := by
 cases h with
 | mk kind pkg major mod name names subs An cn As cs C hp hm hn hln hls hcs hN hl hS hT => exact hcs
def TyV (w : World) (v : Value) (t : Ty) : Prop := ∃ l : List Value, v = .agg l.toArray /\ TyAt w l t
theorem TyV.below {w w' : World} {v : Value} {t : Ty} (h : TyV w v t) (hb : Below w.heap.size w w') : TyV w' v t := by
 obtain ⟨l, e, h⟩ := h
 exact ⟨l, e, h.keep hb⟩
theorem tyCells : Tryz.prog.cellsOf 55 = 7 := by kernel_rfl
theorem tyCellsInt : Tryz.prog.cellsOf 3 = 1 := by kernel_rfl
theorem tyCellsStr : Tryz.prog.cellsOf 9 = 1 := by kernel_rfl
theorem tyCellsNames : Tryz.prog.cellsOf 52 = 1 := by kernel_rfl
theorem tyCellsSubs : Tryz.prog.cellsOf 53 = 1 := by kernel_rfl
section
variable {H : Type} {enc : TypeId × Value -> H} {w : World} {base : Nat} {sp : Nat -> Bool} {held : Bool}
theorem open_names {fuel : Nat} {v : Value} {x : DataW H × List MemPlace} (h : DataW.trod enc Tryz.prog w base sp held fuel 52 [v] = some x) :
  ∃ (A : Option Addr) (c : Nat) (l : List ByteArray), v = .slice A l.length c /\ l.length <= maxLen /\ NamesAt w A l := by
 rcases open_strings Tryz.underlying52 Tryz.underlying9 tyCellsStr h with ⟨hc, -⟩ | ⟨a, len, cap, ss, hc, hb, hl, hm, hss, -, hcell, hz⟩
 ·obtain rfl := List.head_eq_of_cons_eq hc
  exact ⟨none, 0, [], rfl, Nat.zero_le _, fun i s hs => by simp at hs⟩
 ·obtain rfl := List.head_eq_of_cons_eq hc
  have hlen : len <= ss.length := by
   rw [hss]; split
   ·exact hl
   ·exact Nat.le_refl _
  refine ⟨some a, cap, ss.take len, by rw [List.length_take, Nat.min_eq_left hlen], by rw [List.length_take, Nat.min_eq_left hlen]; exact Nat.le_trans hl hm, fun i s hs => ?_⟩;rw [List.getElem?_take] at hs;split at hs
  ·rename_i hil
   have hi : i < ss.length := Nat.lt_of_lt_of_le hil hlen;obtain ⟨b, o, spot⟩ := a;have h0 := hcell 0 (by omega);have hspot : spot = none := by simpa [Addr.add] using World.cell?_spot h0
   subst hspot;have hc := hcell i hi;rw [WideShapes.add_plain] at hc;have he : ss.getD i ByteArray.empty = s := by simp [List.getD_eq_getElem?_getD, hs]
   rw [he] at hc;have hm := hz s (List.mem_of_getElem? hs);unfold maxLen at hm
   exact ⟨b, o, rfl, World.block_lt_of_cell? w _ hc, hc, hm⟩
  ·cases hs
theorem open_tree : ∀ (fuel : Nat) (cs : List Value) (x : DataW H × List MemPlace), DataW.trod enc Tryz.prog w base sp held fuel 55 cs = some x -> ∃ t, TyAt w cs t := by
 intro fuel
 induction fuel using Nat.strongRecOn with
 | ind fuel ih =>
  intro cs x h;obtain ⟨xs, n, hfuel, -, hlen, hxl, hf⟩ := DataW.trod_struct Tryz.underlying55 h;rw [tyCells] at hlen;obtain ⟨c0, c1, c2, c3, c4, c5, c6, rfl⟩ := list7 cs hlen;have q : ∀ j, j < 7 -> ∃ y, xs[j]? = some y := fun j hj => ⟨_, List.getElem?_eq_getElem (by rw [hxl]; exact hj)⟩
  obtain ⟨y0, e0⟩ := q 0 (by omega); obtain ⟨y1, e1⟩ := q 1 (by omega); obtain ⟨y2, e2⟩ := q 2 (by omega); obtain ⟨y3, e3⟩ := q 3 (by omega)
  obtain ⟨y4, e4⟩ := q 4 (by omega); obtain ⟨y5, e5⟩ := q 5 (by omega); obtain ⟨y6, e6⟩ := q 6 (by omega)
  have g0 : DataW.trod enc Tryz.prog w base sp held n 3 (([c0, c1, c2, c3, c4, c5, c6].drop 0).take (Tryz.prog.cellsOf 3)) = some y0 := (hf 0 _ rfl).trans e0;rw [tyCellsInt] at g0;have g1 : DataW.trod enc Tryz.prog w base sp held n 9 (([c0, c1, c2, c3, c4, c5, c6].drop 1).take (Tryz.prog.cellsOf 9)) = some y1 := (hf 1 _ rfl).trans e1;rw [tyCellsStr] at g1;have g2 : DataW.trod enc Tryz.prog w base sp held n 3 (([c0, c1, c2, c3, c4, c5, c6].drop 2).take (Tryz.prog.cellsOf 3)) = some y2 := (hf 2 _ rfl).trans e2;rw [tyCellsInt] at g2;have g3 : DataW.trod enc Tryz.prog w base sp held n 9 (([c0, c1, c2, c3, c4, c5, c6].drop 3).take (Tryz.prog.cellsOf 9)) = some y3 := (hf 3 _ rfl).trans e3;rw [tyCellsStr] at g3;have g4 : DataW.trod enc Tryz.prog w base sp held n 9 (([c0, c1, c2, c3, c4, c5, c6].drop 4).take (Tryz.prog.cellsOf 9)) = some y4 := (hf 4 _ rfl).trans e4;rw [tyCellsStr] at g4;have g5 : DataW.trod enc Tryz.prog w base sp held n 52 (([c0, c1, c2, c3, c4, c5, c6].drop 5).take (Tryz.prog.cellsOf 52)) = some y5 := (hf 5 _ rfl).trans e5;rw [tyCellsNames] at g5;have g6 : DataW.trod enc Tryz.prog w base sp held n 53 (([c0, c1, c2, c3, c4, c5, c6].drop 6).take (Tryz.prog.cellsOf 53)) = some y6 := (hf 6 _ rfl).trans e6;rw [tyCellsSubs] at g6;obtain ⟨k, k0, -, -⟩ := DataW.trod_int Tryz.underlying3 g0;obtain ⟨p, k1, -, zp⟩ := DataW.trod_string Tryz.underlying9 g1;obtain ⟨m, k2, -, -⟩ := DataW.trod_int Tryz.underlying3 g2;obtain ⟨d, k3, -, zd⟩ := DataW.trod_string Tryz.underlying9 g3;obtain ⟨a, k4, -, za⟩ := DataW.trod_string Tryz.underlying9 g4;have h5 : DataW.trod enc Tryz.prog w base sp held n 52 [c5] = some y5 := g5;have h6 : DataW.trod enc Tryz.prog w base sp held n 53 [c6] = some y6 := g6;simp at k0 k1 k2 k3 k4;subst k0 k1 k2 k3 k4;clear g0 g1 g2 g3 g4 g5 g6 e0 e1 e2 e3 e4 e5 e6 q hf h;obtain ⟨An, cn, names, rfl, ln, hN⟩ := open_names h5;unfold maxLen at zp zd za ln
  rcases DataW.trod_slice Tryz.underlying53 h6 with ⟨hc, -⟩ | ⟨a', len, cap, elems, rest, n', hn', hc, -, -, hl, hm, hlen', hel, -, -⟩
  ·obtain rfl := List.head_eq_of_cons_eq hc
   exact ⟨_, .mk k p m d a names [] An cn none 0 (fun _ => [.nilIface, .nilIface, .nilIface, .nilIface, .nilIface, .nilIface, .nilIface]) zp zd za ln (by simp) (by simp) hN (fun _ => rfl) (fun i t ht => by simp at ht) (fun i t ht => by simp at ht)⟩
  ·obtain rfl := List.head_eq_of_cons_eq hc
   rw [tyCells] at hel
   have hall : ∀ i, ∃ q : Ty × List Value, q.2.length = 7 /\ (i < len -> w.cells? base (a'.add (i * 7)) 7 = some q.2 /\ TyAt w q.2 q.1) := by
    intro i;by_cases hi : i < len
    ·have h1 := hel i hi
     rw [List.getElem?_eq_getElem (by rw [hlen']; exact hi)] at h1;obtain ⟨cs', h2, h3⟩ := Option.bind_eq_some_iff.1 h1;obtain ⟨t, ht⟩ := ih n' (by omega) cs' _ h3;exact ⟨(t, cs'), (World.cells?_some h2).2.1, fun _ => ⟨h2, ht⟩⟩
    ·exact ⟨(.mk 0 ⟨#[]⟩ 0 ⟨#[]⟩ ⟨#[]⟩ [] [], [.nilIface, .nilIface, .nilIface, .nilIface, .nilIface, .nilIface, .nilIface]), rfl, fun h => absurd h hi⟩
   obtain ⟨F, hF⟩ := Classical.axiomOfChoice hall;clear hall hel ih
   have hsome : ∀ i t, ((List.range len).map fun i => (F i).1)[i]? = some t -> i < len /\ t = (F i).1 := by
    intro i t ht;rw [List.getElem?_map] at ht;rcases Nat.lt_or_ge i len with hi | hi
    ·rw [List.getElem?_range hi] at ht
     exact ⟨hi, (Option.some.inj ht).symm⟩
    ·rw [List.getElem?_eq_none (by simpa using hi)] at ht
     cases ht
   have hle : ((List.range len).map fun i => (F i).1).length = len := by simp
   have hlz : ((List.range len).map fun i => (F i).1).length <= 9223372036854775807 := by
    rw [hle]; unfold maxLen at hm; exact Nat.le_trans hl hm
   have T := TyAt.mk (w := w) k p m d a names ((List.range len).map fun i => (F i).1) An cn (some a') cap (fun i => (F i).2) zp zd za ln hlz (by rw [hle]; exact hl) hN (fun i => (hF i).1)
    (fun i t ht => by
     obtain ⟨hi, -⟩ := hsome i t ht;obtain ⟨b, o, spot⟩ := a'
     have hspot : spot = none := by
      have hc := (World.cells?_some ((hF 0).2 (by omega)).1).2.2 0 (by omega);rw [List.getElem?_eq_getElem (by rw [(hF 0).1]; omega)] at hc;have := World.cell?_spot hc
      simpa [Addr.add] using this
     subst hspot;have hat := (World.cells?_some ((hF i).2 hi).1).2.2
     have hcell : ∀ j v, (F i).2[j]? = some v -> w.cell? ⟨b, o + i * 7 + j, none⟩ = some v := by
      intro j v hv
      have hj : j < 7 := by
       have := (List.getElem?_eq_some_iff.1 hv).1
       rw [(hF i).1] at this; exact this
      have := hat j hj
      rw [WideShapes.add_plain, WideShapes.add_plain] at this;rw [this]; exact hv
     refine ⟨b, o, rfl, ?_, hcell⟩;exact World.block_lt_of_cell? w _ (hcell 0 _ (List.getElem?_eq_getElem (by rw [(hF i).1]; omega))))
    (fun i t ht => by
     obtain ⟨hi, rfl⟩ := hsome i t ht;exact ((hF i).2 hi).2)
   rw [hle] at T;exact ⟨_, T⟩
end
end Go.Proofs.YteecgiebimdbhaaGreatDoor
namespace Go.Proofs.YteecgiebimdbhaaGreatDoor
open Go.RowKit
open M
def boxed (w : World) (c : Array Value) : World := w.alloc (.cells c 55)
theorem box_cell {w w' : World} {c : Array Value} (hb : Below (boxed w c).heap.size (boxed w c) w') (i : Nat) : w'.cell? ⟨w.heap.size, i, none⟩ = c[i]? := by
  have h : (boxed w c).cell? ⟨w.heap.size, i, none⟩ = c[i]? := cell_of_row _ _ i c _ (0, 0) (heap_alloc_new w _);exact (hb.cell (p := ⟨w.heap.size, i, none⟩) (by simp [boxed])).trans h
theorem box_below {w w' : World} {c : Array Value} (hb : Below (boxed w c).heap.size (boxed w c) w') : Below w.heap.size w w' :=
  (below_new (Below.refl _ _) _).trans (hb.mono (by simp [boxed]))
theorem ret_int' {a b : Int} (h : b = a) : Ending.returned (.int .i64 a) = .returned (.int .i64 b) := by rw [h]
theorem manyL_eq (t : Ty) : many t = 1 + manyL t.subs := by cases t; rfl
theorem deep_eq (t : Ty) : deep t = deepL t.subs + 1 := by cases t; rfl
theorem plain_eq (t : Ty) : plainT t = (!(t.kind == 8) && plainL t.subs) := by cases t; rfl
theorem sub_many {t : Ty} {k : Nat} {s : Ty} (h : t.subs[k]? = some s) : many s < many t := by
  have := manyL_mem t.subs s (List.mem_of_getElem? h)
  rw [manyL_eq t]; omega
theorem deepL_append : ∀ (a b : List Ty), deepL (a ++ b) = max (deepL a) (deepL b)
  | [], b => by simp [deepL]
  | t :: r, b => by
    have := deepL_append r b
    simp only [List.cons_append, deepL, this]; omega
theorem deepL_take (l : List Ty) (k : Nat) (t : Ty) (h : l[k]? = some t) : deepL (l.take (k + 1)) = max (deepL (l.take k)) (deep t) := by
  rw [List.take_add_one, h, deepL_append];simp [deepL]
mutual
theorem deep_many : ∀ t : Ty, deep t <= many t
  | .mk _ _ _ _ _ _ subs => by
    have := deepL_many subs
    unfold deep many; omega
theorem deepL_many : ∀ l : List Ty, deepL l <= manyL l
  | [] => by simp [deepL]
  | t :: r => by
    have a := deep_many t;have b := deepL_many r;unfold deepL manyL; omega
end
theorem plainL_mem : ∀ (l : List Ty), plainL l = true ↔ ∀ t ∈ l, plainT t = true
  | [] => by simp [plainL]
  | t :: r => by simp [plainL, plainL_mem r]
theorem TyAt.seven {w : World} {v0 v1 v2 v3 v4 v5 v6 : Value} {t : Ty} (h : TyAt w [v0, v1, v2, v3, v4, v5, v6] t) : ∃ (An : Option Addr) (cn : Nat) (As : Option Addr) (cs : Nat),
    v0 = .int .i64 t.kind /\ v1 = .string t.pkg /\ v2 = .int .i64 t.major /\ v3 = .string t.mod /\ v4 = .string t.name /\ v5 = .slice An t.names.length cn /\ v6 = .slice As t.subs.length cs := by
  obtain ⟨An, cn, As, cs, e, -⟩ := h.parts;exact ⟨An, cn, As, cs, by simpa using e⟩
end Go.Proofs.YteecgiebimdbhaaGreatDoor
namespace Go.Proofs.YteecgiebimdbhaaGreatDoor
open Go.RowKit
open M
open Classical in
noncomputable def strike (S : Nat -> Prop) (w : World) : World := { w with heap := w.heap.mapIdx fun i o => if S i then .cells #[] 0 (0, 0) else o }
theorem strike_size (S : Nat -> Prop) (w : World) : (strike S w).heap.size = w.heap.size := by simp [strike]
theorem strike_cell {S : Nat -> Prop} {w : World} {b o : Nat} {x : Value} : (strike S w).cell? ⟨b, o, none⟩ = some x ↔ ¬ S b /\ w.cell? ⟨b, o, none⟩ = some x := by
  by_cases hb : S b
  · simp only [hb, not_true, false_and, iff_false]
    intro h;have hlt := World.block_lt_of_cell? _ _ h;rw [strike_size] at hlt;rw [cZ (cs := #[]) (T := 0) (fr := (0, 0)) (by simp [strike, hlt, hb])] at h;simp at h
  · simp only [hb, not_false_eq_true, true_and]
    have e : (strike S w).heap[b]? = w.heap[b]? := by
      rcases Nat.lt_or_ge b w.heap.size with h | h
      · simp [strike, h, hb]
      · rw [Array.getElem?_eq_none h, Array.getElem?_eq_none (by rw [strike_size]; exact h)]
    rw [World.cell?_of_block (w := w) (w' := strike S w) (a := ⟨b, o, none⟩) e]
theorem NamesAt.cells {w w' : World} {A : Option Addr} {l : List ByteArray} (hz : w.heap.size <= w'.heap.size) (hc : ∀ b o x, w.cell? ⟨b, o, none⟩ = some x -> w'.cell? ⟨b, o, none⟩ = some x) (h : NamesAt w A l) : NamesAt w' A l := by
  intro i s hs;obtain ⟨g, o, hA, hg, h1, h2⟩ := h i s hs;exact ⟨g, o, hA, Nat.lt_of_lt_of_le hg hz, hc _ _ _ h1, h2⟩
theorem TyAt.cells {w w' : World} (hz : w.heap.size <= w'.heap.size) (hc : ∀ b o x, w.cell? ⟨b, o, none⟩ = some x -> w'.cell? ⟨b, o, none⟩ = some x) {l : List Value} {t : Ty} (h : TyAt w l t) : TyAt w' l t := by
  induction h with
  | mk kind pkg major mod name names subs An cn As cs C hp hm hn hln hls hcs hN hl hS hT ih =>
    refine .mk kind pkg major mod name names subs An cn As cs C hp hm hn hln hls hcs (hN.cells hz hc) hl (fun i t ht => ?_) ih;obtain ⟨g, o, hA, hg, h1⟩ := hS i t ht;exact ⟨g, o, hA, Nat.lt_of_lt_of_le hg hz, fun j v hv => hc _ _ _ (h1 j v hv)⟩
theorem run_append_empty {P : Program} {w : World} (base : Nat) (t ty e : TypeId) (i : TypeInfo) (size : Nat) (ht : P.underlying t = some (.slice e)) (hi : P.info? e = some i)
    (v : Value) (n c : Nat) (xs : List Value) (hown : w.ownsRow base e size v n xs) : (Builtin.append_ #[t, t] ty #[v, .slice none 0 c]).run P w = .ok v w := by
  rcases hown.2 with ⟨rfl, rfl⟩ | ⟨g, cap, cur, rfl, _, _, hnc, _⟩
  · simp [Builtin.append_, run_underlying ht, sizeOf, typeInfo, hi, Builtin.lenOf, Builtin.firstCells]
  · simp [Builtin.append_, run_underlying ht, sizeOf, typeInfo, hi, Builtin.lenOf, Builtin.firstCells, hnc, storeCells]
theorem wpList_append_empty {P : Program} {w : World} {ops : Array Oper} {rest : List Oper} {o : Oper} {a : Act} {Q : Exit -> Act -> World -> Prop} (hgd : o.guard = none) (s x : Operand) (t : TypeId)
    (ho : o.op = .call { callee := .builtin .append, args := #[s, x], argTypes := #[t, t] })
    (base : Nat) (e : TypeId) (i : TypeInfo) (size : Nat) (ht : P.underlying t = some (.slice e)) (hi : P.info? e = some i)
    (v : Value) (n c : Nat) (xs : List Value) (hs : a.eval s = v) (hown : w.ownsRow base e size v n xs) (hx : a.eval x = .slice none 0 c)
    (h : wpList P ops Q rest (a.put o.dst v) w) : wpList P ops Q (o :: rest) a w := by
  refine wpList_plain hgd fun K hK => ?_
  have hrun := run_append_empty (P := P) (w := w) base t o.type e i size ht hi v n c xs hown;unfold Oper.wp
  simp [execOp, ho, resolve, invoke, builtin, hs, hx, hrun, Result.andThen];exact hK _ _ h
theorem str_info : (Tryz.prog.info? 9).map (fun i => (i.zero, i.size, i.bytes)) = some (some (.string ⟨#[]⟩), 1, 16) := by kernel_rfl
theorem typ_info : (Tryz.prog.info? 55).map (fun i => (i.zero, i.size, i.bytes)) = some (some (.agg #[.int .i64 0, .string ⟨#[]⟩, .int .i64 0, .string ⟨#[]⟩, .string ⟨#[]⟩, .slice none 0 0, .slice none 0 0]), 7, 112) := by kernel_rfl
theorem own_names {w : World} {base n : Nat} {v : Value} {l : List ByteArray} (h : w.ownsRow base 9 1 v n (l.map Value.string)) (hs : ∀ (i : Nat) (s : ByteArray), l[i]? = some s -> s.size <= 9223372036854775807) :
    l.length = n /\ ∃ A c, v = .slice A n c /\ ∀ S : Nat -> Prop, (∀ b, base <= b -> ¬ S b) -> NamesAt (strike S w) A l := by
  have hlen : l.length = n := by have := h.1; simpa using this
  refine ⟨hlen, ?_⟩;rcases h.2 with ⟨rfl, h0⟩ | ⟨g, cap, cur, rfl, hB, hg, hnc, hcm, hcs, htake⟩
  · refine ⟨none, 0, by rw [h0], fun S _ i s hi => ?_⟩
    have := (List.getElem?_eq_some_iff.1 hi).1
    omega
  · refine ⟨some ⟨g, 0, none⟩, cap, rfl, fun S hS i s hi => ?_⟩
    refine ⟨g, 0, rfl, by rw [strike_size]; exact (Array.getElem?_eq_some_iff.1 hg).1, ?_, hs i s hi⟩;have hi' := (List.getElem?_eq_some_iff.1 hi).1
    refine strike_cell.2 ⟨hS g hB, ?_⟩;rw [cZ hg, Nat.zero_add, <- Array.getElem?_toList];have e : (cur.toList.take (n * 1))[i]? = some (.string s) := by rw [htake, List.getElem?_map, hi]; rfl
    rw [List.getElem?_take] at e;split at e
    · exact e
    · cases e
structure Cp (w : World) (t : Ty) (A5 : Option Addr) (c5 : Nat) (j : Nat) (A6 : Option Addr) (c6 : Nat) (wr : World) : Prop where
  below : Below w.heap.size w wr
  box : wr.heap[w.heap.size]? = some (.cells #[.int .i64 t.kind, .string t.pkg, .int .i64 t.major, .string t.mod, .string t.name, .slice A5 t.names.length c5, .slice A6 j c6] 55 (0, 0))
  res : wr.heap[w.heap.size + 1]? = some (.cells #[.int .i64 0, .string ⟨#[]⟩, .int .i64 0, .string ⟨#[]⟩, .string ⟨#[]⟩, .slice none 0 0, .slice none 0 0] 55 (0, 0))
  names : NamesAt (strike (fun b => b < w.heap.size + 2 \/ (Value.slice A6 j c6).ownBlock = some b) wr) A5 t.names
  subs : ∃ C : Nat -> List Value, (∀ i, (C i).length = 7) /\ wr.ownsRow (w.heap.size + 2) 55 7 (.slice A6 j c6) j ((List.range j).map C).flatten /\
    ∀ i s, i < j -> t.subs[i]? = some s -> TyAt (strike (fun b => b < w.heap.size + 2 \/ (Value.slice A6 j c6).ownBlock = some b) wr) (C i) s
theorem lower_any (n : Int) (w : World) : Calls Tryz.prog 98 #[.int .u8 n] w fun e w' => e = .returned (.bool (lowC n)) /\ w = w' := by
  go_enter Tryz.func98, Tryz.ntmps98
  go_wp2
  all_goals go_ret
  all_goals exact ⟨ret_bool (by unfold lowC; simp_all; try omega), rfl⟩
theorem upper_any (n : Int) (w : World) : Calls Tryz.prog 137 #[.int .u8 n] w fun e w' => e = .returned (.bool (upC n)) /\ w = w' := by
  go_enter Tryz.func137, Tryz.ntmps137
  go_wp2
  all_goals go_ret
  all_goals exact ⟨ret_bool (by unfold upC; simp_all; try omega), rfl⟩
theorem digit_any (n : Int) (w : World) : Calls Tryz.prog 140 #[.int .u8 n] w fun e w' => e = .returned (.bool (digC n)) /\ w = w' := by
  go_enter Tryz.func140, Tryz.ntmps140
  go_wp2
  all_goals go_ret
  all_goals exact ⟨ret_bool (by unfold digC; simp_all; try omega), rfl⟩
theorem lowDig_any (n : Int) (w : World) : Calls Tryz.prog 99 #[.int .u8 n] w fun e w' => e = .returned (.bool (lowDigC n)) /\ w = w' := by
  unfold lowDigC
  rcases hid_or (lowC n) with h | h <;> rw [h.out]
  all_goals
    go_enter Tryz.func99, Tryz.ntmps99
    go_wp2_with fail
    refine (lower_any _ _).mono ?_; rintro e w' ⟨rfl, rfl⟩; rw [h.out]
    go_wp2_with (go_at_call 140; refine (digit_any _ _).mono ?_; rintro e w' ⟨rfl, rfl⟩)
    go_ret;exact ⟨rfl, rfl⟩
theorem any_any (n : Int) (w : World) : Calls Tryz.prog 138 #[.int .u8 n] w fun e w' => e = .returned (.bool (anyC n)) /\ w = w' := by
  unfold anyC
  rcases hid_or (lowC n) with h | h <;> rw [h.out]
  · rcases hid_or (upC n) with h2 | h2 <;> rw [h2.out]
    all_goals
      go_enter Tryz.func138, Tryz.ntmps138
      go_wp2_with fail
      refine (lower_any _ _).mono ?_; rintro e w' ⟨rfl, rfl⟩; rw [h.out]
      go_wp2_with fail
      refine (upper_any _ _).mono ?_; rintro e w' ⟨rfl, rfl⟩; rw [h2.out]
      go_wp2_with (go_at_call 140; refine (digit_any _ _).mono ?_; rintro e w' ⟨rfl, rfl⟩)
      go_ret;exact ⟨rfl, rfl⟩
  · go_enter Tryz.func138, Tryz.ntmps138
    go_wp2_with fail
    refine (lower_any _ _).mono ?_; rintro e w' ⟨rfl, rfl⟩; rw [h.out]
    go_wp2
    go_ret;exact ⟨rfl, rfl⟩
theorem key_any (s : ByteArray) (w : World) : Calls Tryz.prog 100 #[.string s] w fun e w' => e = .returned (.bool (keyB s.data.toList)) /\ w = w' := by
  have E := hZ (show s.toList = s.data.toList from Lib.toList_data s);go_enter Tryz.func100, Tryz.ntmps100
  go_wp2
  all_goals go_ret
  all_goals refine ⟨ret_bool ?_, rfl⟩
  all_goals (rw [<- E.out]; clear E; simp_all [keyB, keys])
theorem word_any (s : ByteArray) (w : World) : Calls Tryz.prog 139 #[.string s] w fun e w' => e = .returned (.bool (wordB s.data.toList)) /\ w = w' := by
  have E := hZ (show s.toList = s.data.toList from Lib.toList_data s);go_enter Tryz.func139, Tryz.ntmps139
  go_wp2
  all_goals go_ret
  all_goals refine ⟨ret_bool ?_, rfl⟩
  all_goals (rw [<- E.out]; clear E; simp_all [wordB, words])
theorem empty_facts (s : ByteArray) (h : s.size = 0) : s.toList = [] /\ s.toList.isEmpty = true := by
  have hl : s.data.toList = [] := by rw [<- List.length_eq_zero_iff, len_size]; exact h
  have g1 : s.toList = [] := by rw [Lib.toList_data, hl]
  exact ⟨g1, by rw [g1]; rfl⟩
theorem full_facts (s : ByteArray) (h : ¬ s.size = 0) : ¬ s.toList = [] /\ s.toList.isEmpty = false := by
  have hl : s.data.toList ≠ [] := by intro e; apply h; rw [<- len_size, e]; rfl
  have g1 : ¬ s.toList = [] := by rw [Lib.toList_data]; exact hl
  exact ⟨g1, by simpa using g1⟩
theorem spelled_low (s : ByteArray) (w : World) (hs : s.size <= 9223372036854775807) :
    Calls Tryz.prog 97 #[.string s, .func (.func 98) #[] #[], .func (.func 99) #[] #[]] w fun e w' => e = .returned (.bool (spell lowC lowDigC s.data.toList)) /\ w = w' := by
  by_cases h0 : s.size = 0
  · have R := hZ (spell_empty lowC lowDigC s h0)
    rw [R.out];obtain ⟨g1, g2⟩ := empty_facts s h0;clear h0 R;go_enter Tryz.func97, Tryz.ntmps97
    go_wp2
    go_ret;exact ⟨rfl, rfl⟩
  obtain ⟨g1, g2⟩ := full_facts s h0;have hp : 0 < s.size := by omega
  clear h0;by_cases h1 : 20 < s.size
  · have R := hZ (spell_long lowC lowDigC s h1)
    rw [R.out];have h1' : (20 : Int) < ↑s.size := by omega
    clear h1 R;go_enter Tryz.func97, Tryz.ntmps97
    go_wp2
    go_ret;exact ⟨rfl, rfl⟩
  have h1' : (↑s.size : Int) <= 20 := by omega
  have h1'' : ¬ (20 : Int) < ↑s.size := by omega
  have B0 := hZ (bt_eq s 0 hp);rcases hid_or (lowC (bt s.data.toList 0)) with hf | hf
  · have R := hZ (spell_first lowC lowDigC s hf.out)
    rw [R.out];clear h1 R;go_enter Tryz.func97, Tryz.ntmps97
    go_wp2_with fail
    rw [B0.out];refine (lower_any _ _).mono ?_; rintro e w' ⟨rfl, rfl⟩; rw [hf.out]
    go_wp2
    go_ret;exact ⟨rfl, rfl⟩
  go_enter Tryz.func97, Tryz.ntmps97
  go_wp2_with fail
  rw [B0.out];refine (lower_any _ _).mono ?_; rintro e w' ⟨rfl, rfl⟩; rw [hf.out]
  go_wp2
  go_loop [7] (fun i => ∃ k : Nat, 1 <= k /\ k <= s.size /\ i = .int .i64 k /\ Hid (∀ j, 1 <= j -> j < k -> lowDigC (bt s.data.toList j) = true)) (fun i => s.size - (intOf i).toNat)
  case atStart => exact ⟨1, by omega, by omega, rfl, hZ (fun j a b => by omega)⟩
  case round =>
    obtain ⟨k, hk1, hk, rfl, HK⟩ := hrel;by_cases hlt : k < s.size
    · have BK := hZ (bt_eq s k hlt)
      rcases hid_or (lowDigC (bt s.data.toList k)) with hg | hg
      · go_wp2_with fail
        rw [BK.out];refine (lowDig_any _ _).mono ?_; rintro e w' ⟨rfl, rfl⟩; rw [hg.out]
        go_wp2
        go_ret;exact ⟨ret_bool (spell_later lowC lowDigC s k hk1 hlt hg.out), rfl⟩
      · go_wp2_with fail
        rw [BK.out];refine (lowDig_any _ _).mono ?_; rintro e w' ⟨rfl, rfl⟩; rw [hg.out]
        go_wp2
        go_round
        case rel => exact ⟨k + 1, by omega, by omega, by go_num, hZ (upto_step (P := fun j => lowDigC (bt s.data.toList j)) HK.out hg.out)⟩
        case measure => simp [intOf]; omega
    · go_wp2
      go_ret;exact ⟨ret_bool (spell_all lowC lowDigC s hp (by omega) hf.out (fun j a b => HK.out j a (by omega))), rfl⟩
theorem spelled_up (s : ByteArray) (w : World) (hs : s.size <= 9223372036854775807) :
    Calls Tryz.prog 97 #[.string s, .func (.func 137) #[] #[], .func (.func 138) #[] #[]] w fun e w' => e = .returned (.bool (spell upC anyC s.data.toList)) /\ w = w' := by
  by_cases h0 : s.size = 0
  · have R := hZ (spell_empty upC anyC s h0)
    rw [R.out];obtain ⟨g1, g2⟩ := empty_facts s h0;clear h0 R;go_enter Tryz.func97, Tryz.ntmps97
    go_wp2
    go_ret;exact ⟨rfl, rfl⟩
  obtain ⟨g1, g2⟩ := full_facts s h0;have hp : 0 < s.size := by omega
  clear h0;by_cases h1 : 20 < s.size
  · have R := hZ (spell_long upC anyC s h1)
    rw [R.out];have h1' : (20 : Int) < ↑s.size := by omega
    clear h1 R;go_enter Tryz.func97, Tryz.ntmps97
    go_wp2
    go_ret;exact ⟨rfl, rfl⟩
  have h1' : (↑s.size : Int) <= 20 := by omega
  have h1'' : ¬ (20 : Int) < ↑s.size := by omega
  have B0 := hZ (bt_eq s 0 hp);rcases hid_or (upC (bt s.data.toList 0)) with hf | hf
  · have R := hZ (spell_first upC anyC s hf.out)
    rw [R.out];clear h1 R;go_enter Tryz.func97, Tryz.ntmps97
    go_wp2_with fail
    rw [B0.out];refine (upper_any _ _).mono ?_; rintro e w' ⟨rfl, rfl⟩; rw [hf.out]
    go_wp2
    go_ret;exact ⟨rfl, rfl⟩
  go_enter Tryz.func97, Tryz.ntmps97
  go_wp2_with fail
  rw [B0.out];refine (upper_any _ _).mono ?_; rintro e w' ⟨rfl, rfl⟩; rw [hf.out]
  go_wp2
  go_loop [7] (fun i => ∃ k : Nat, 1 <= k /\ k <= s.size /\ i = .int .i64 k /\ Hid (∀ j, 1 <= j -> j < k -> anyC (bt s.data.toList j) = true)) (fun i => s.size - (intOf i).toNat)
  case atStart => exact ⟨1, by omega, by omega, rfl, hZ (fun j a b => by omega)⟩
  case round =>
    obtain ⟨k, hk1, hk, rfl, HK⟩ := hrel;by_cases hlt : k < s.size
    · have BK := hZ (bt_eq s k hlt)
      rcases hid_or (anyC (bt s.data.toList k)) with hg | hg
      · go_wp2_with fail
        rw [BK.out];refine (any_any _ _).mono ?_; rintro e w' ⟨rfl, rfl⟩; rw [hg.out]
        go_wp2
        go_ret;exact ⟨ret_bool (spell_later upC anyC s k hk1 hlt hg.out), rfl⟩
      · go_wp2_with fail
        rw [BK.out];refine (any_any _ _).mono ?_; rintro e w' ⟨rfl, rfl⟩; rw [hg.out]
        go_wp2
        go_round
        case rel => exact ⟨k + 1, by omega, by omega, by go_num, hZ (upto_step (P := fun j => anyC (bt s.data.toList j)) HK.out hg.out)⟩
        case measure => simp [intOf]; omega
    · go_wp2
      go_ret;exact ⟨ret_bool (spell_all upC anyC s hp (by omega) hf.out (fun j a b => HK.out j a (by omega))), rfl⟩
theorem small_any (s : ByteArray) (w : World) (hs : s.size <= 9223372036854775807) :
    Calls Tryz.prog 62 #[.string s] w fun e w' => e = .returned (.bool (smallB s.data.toList)) /\ w = w' := by
  unfold smallB
  rcases hid_or (spell lowC lowDigC s.data.toList) with h | h <;> rw [h.out]
  · go_enter Tryz.func62, Tryz.ntmps62
    go_wp2_with fail
    refine (spelled_low _ _ hs).mono ?_; rintro e w' ⟨rfl, rfl⟩; rw [h.out]
    go_wp2
    go_ret;exact ⟨rfl, rfl⟩
  · go_enter Tryz.func62, Tryz.ntmps62
    go_wp2_with fail
    refine (spelled_low _ _ hs).mono ?_; rintro e w' ⟨rfl, rfl⟩; rw [h.out]
    go_wp2_with fail
    refine (key_any _ _).mono ?_; rintro e w' ⟨rfl, rfl⟩
    go_wp2
    go_ret;exact ⟨rfl, rfl⟩
theorem great_any (s : ByteArray) (w : World) (hs : s.size <= 9223372036854775807) :
    Calls Tryz.prog 96 #[.string s] w fun e w' => e = .returned (.bool (greatB s.data.toList)) /\ w = w' := by
  unfold greatB
  rcases hid_or (spell upC anyC s.data.toList) with h | h <;> rw [h.out]
  · go_enter Tryz.func96, Tryz.ntmps96
    go_wp2_with fail
    refine (spelled_up _ _ hs).mono ?_; rintro e w' ⟨rfl, rfl⟩; rw [h.out]
    go_wp2
    go_ret;exact ⟨rfl, rfl⟩
  · go_enter Tryz.func96, Tryz.ntmps96
    go_wp2_with fail
    refine (spelled_up _ _ hs).mono ?_; rintro e w' ⟨rfl, rfl⟩; rw [h.out]
    go_wp2_with fail
    refine (word_any _ _).mono ?_; rintro e w' ⟨rfl, rfl⟩
    go_wp2
    go_ret;exact ⟨rfl, rfl⟩
def keyAt (k : Nat) : ByteArray := ⟨(keys.getD k []).toArray⟩
theorem keyAt_list (k : Nat) : (keyAt k).toList = keys.getD k [] := by rw [Lib.toList_data]; rfl
theorem key_no (l : List UInt8) (h : ∀ j, j < 12 -> (keys.getD j [] == l) = false) : keyB l = false := by
  have h0 := h 0 (by omega); have h1 := h 1 (by omega); have h2 := h 2 (by omega); have h3 := h 3 (by omega); have h4 := h 4 (by omega); have h5 := h 5 (by omega)
  have h6 := h 6 (by omega); have h7 := h 7 (by omega); have h8 := h 8 (by omega); have h9 := h 9 (by omega); have h10 := h 10 (by omega); have h11 := h 11 (by omega)
  simp only [keys, List.getD_cons_zero, List.getD_cons_succ, beq_eq_false_iff_ne] at h0 h1 h2 h3 h4 h5 h6 h7 h8 h9 h10 h11;rw [Bool.eq_false_iff];intro e;unfold keyB at e
  rw [List.contains_iff_mem] at e;simp only [keys, List.mem_cons, List.not_mem_nil, or_false] at e;rcases e with e | e | e | e | e | e | e | e | e | e | e | e <;> first | exact h0 e.symm | exact h1 e.symm | exact h2 e.symm | exact h3 e.symm | exact h4 e.symm | exact h5 e.symm | exact h6 e.symm | exact h7 e.symm | exact h8 e.symm | exact h9 e.symm | exact h10 e.symm | exact h11 e.symm
theorem key_yes (l : List UInt8) (k : Nat) (hk : k < 12) (h : (keys.getD k [] == l) = true) : keyB l = true := by
  unfold keyB
  rw [List.contains_iff_mem];have : keys.getD k [] = l := by simpa using h
  rw [<- this, List.getD_eq_getElem?_getD, List.getElem?_eq_getElem (by exact hk)];exact List.getElem_mem _
theorem ks_cell (w : World) (k : Nat) (hk : k < 12) : (w.alloc (.cells #[.string ⟨#[97, 115]⟩, .string ⟨#[97, 108, 105, 97, 115]⟩, .string ⟨#[100, 101, 112]⟩, .string ⟨#[104, 105, 100, 100, 101, 110]⟩, .string ⟨#[105, 109, 112, 111, 114, 116]⟩, .string ⟨#[105, 115]⟩, .string ⟨#[109, 111, 100, 117, 108, 101]⟩, .string ⟨#[111, 112, 97, 113, 117, 101]⟩, .string ⟨#[112, 97, 99, 107, 97, 103, 101]⟩, .string ⟨#[117, 115, 101]⟩, .string ⟨#[118, 97, 108]⟩, .string ⟨#[118, 101, 114, 115, 105, 111, 110]⟩] 9)).cell? ⟨w.heap.size, k, none⟩ = some (.string (keyAt k)) := by
  match k, hk with
  | 0, _ => go_simp; rfl
  | 1, _ => go_simp; rfl
  | 2, _ => go_simp; rfl
  | 3, _ => go_simp; rfl
  | 4, _ => go_simp; rfl
  | 5, _ => go_simp; rfl
  | 6, _ => go_simp; rfl
  | 7, _ => go_simp; rfl
  | 8, _ => go_simp; rfl
  | 9, _ => go_simp; rfl
  | 10, _ => go_simp; rfl
  | 11, _ => go_simp; rfl
theorem refKey_any (s : ByteArray) (w : World) : Calls Tryz.prog 54 #[.string s] w fun e w' => e = .returned (.bool (keyB s.data.toList)) /\ Below w.heap.size w w' := by
  have HC := hZ (ks_cell w);have E := hZ (show s.toList = s.data.toList from Lib.toList_data s);go_enter Tryz.func54, Tryz.ntmps54
  go_wp2
  go_loop [4] (fun i => ∃ k : Nat, k <= 12 /\ i = .int .i64 k /\ Hid (∀ j, 0 <= j -> j < k -> (keys.getD j [] == s.data.toList) = false)) (fun i => 12 - (intOf i).toNat)
  case atStart => exact ⟨0, by omega, rfl, hZ (fun j _ a => by omega)⟩
  case round =>
    obtain ⟨k, hk, rfl, HK⟩ := hrel;by_cases hlt : k < 12
    · have hc := HC.out k hlt
      rcases hid_or ((keyAt k).toList == s.toList) with H | H
      · have H' := hZ H.out
        rw [keyAt_list, E.out] at H';have q := H.out;go_wp2
        go_round
        case rel => exact ⟨k + 1, by omega, by go_num, hZ (by
          have := upto_step (b := 0) (P := fun j => !(keys.getD j [] == s.data.toList)) (fun j a b => by rw [HK.out j a b]; rfl) (by rw [H'.out]; rfl)
          simpa using this)⟩
        case measure => simp [intOf]; omega
      · have H' := hZ H.out
        rw [keyAt_list, E.out] at H';have q := H.out;go_wp2
        go_ret;exact ⟨ret_bool (key_yes _ k hlt H'.out), below_new (Below.refl _ _) _⟩
    · go_wp2
      go_ret;exact ⟨ret_bool (key_no _ (fun j a => HK.out j (by omega) (by omega))), below_new (Below.refl _ _) _⟩
theorem low_yes {x y : Int} (h : y = x) (c : lowC y = true \/ digC y = true) : lowDigC x = true := by subst h; unfold lowDigC; rcases c with c | c <;> simp [c]
theorem low_no {x y : Int} (h : y = x) (c : lowC y = false /\ digC y = false) : lowDigC x = false := by subst h; unfold lowDigC; simp [c]
theorem letters_low (s : ByteArray) (w : World) (hs : s.size <= 9223372036854775807) :
    Calls Tryz.prog 53 #[.string s, .bool false] w fun e w' => e = .returned (.bool (letters lowDigC s.data.toList)) /\ w = w' := by
  by_cases h0 : s.size = 0
  · have R := hZ (letters_empty lowDigC s h0)
    rw [R.out];have h0' : (↑s.size : Int) < 1 := by omega
    clear h0 R;go_enter Tryz.func53, Tryz.ntmps53
    go_wp2
    go_ret;exact ⟨rfl, rfl⟩
  have hp : 0 < s.size := by omega
  have hp' : ¬ (↑s.size : Int) < 1 := by omega
  have hp'' : 1 <= (↑s.size : Int) := by omega
  clear h0;by_cases h1 : 20 < s.size
  · have R := hZ (letters_long lowDigC s h1)
    rw [R.out];have h1' : (20 : Int) < ↑s.size := by omega
    clear h1 R;go_enter Tryz.func53, Tryz.ntmps53
    go_wp2
    go_ret;exact ⟨rfl, rfl⟩
  have h1' : (↑s.size : Int) <= 20 := by omega
  have h1'' : ¬ (20 : Int) < ↑s.size := by omega
  go_enter Tryz.func53, Tryz.ntmps53
  go_wp2
  go_loop [5] (fun i => ∃ k : Nat, k <= s.size /\ i = .int .i64 k /\ Hid (∀ j, 0 <= j -> j < k -> lowDigC (bt s.data.toList j) = true)) (fun i => s.size - (intOf i).toNat)
  case atStart => exact ⟨0, by omega, rfl, hZ (fun j a b => by omega)⟩
  case round =>
    obtain ⟨k, hk, rfl, HK⟩ := hrel;by_cases hlt : k < s.size
    · have BK := hZ (bt_eq s k hlt)
      go_wp2
      all_goals
        first
        | (exfalso; simp_all <;> omega)
        | (go_ret
           exact ⟨ret_bool (letters_later lowDigC s k hlt (low_no BK.out (by unfold lowC digC; simp_all <;> omega))), rfl⟩)
        | (go_round
           case rel => exact ⟨k + 1, by omega, by go_num, hZ (upto_step (P := fun j => lowDigC (bt s.data.toList j)) HK.out (low_yes BK.out (by unfold lowC digC; simp_all <;> omega)))⟩
           case measure => simp [intOf]; omega)
    · go_wp2
      go_ret;exact ⟨ret_bool (letters_all lowDigC s hp (by omega) (fun j a => HK.out j (by omega) (by omega))), rfl⟩
theorem big_yes {x y : Int} (h : y = x) (c : lowC y = true \/ digC y = true \/ upC y = true) : anyC x = true := by subst h; unfold anyC; rcases c with c | c | c <;> simp [c]
theorem big_no {x y : Int} (h : y = x) (c : lowC y = false /\ digC y = false /\ upC y = false) : anyC x = false := by subst h; unfold anyC; simp [c]
theorem letters_big (s : ByteArray) (w : World) (hs : s.size <= 9223372036854775807) :
    Calls Tryz.prog 53 #[.string s, .bool true] w fun e w' => e = .returned (.bool (letters anyC s.data.toList)) /\ w = w' := by
  by_cases h0 : s.size = 0
  · have R := hZ (letters_empty anyC s h0)
    rw [R.out];have h0' : (↑s.size : Int) < 1 := by omega
    clear h0 R;go_enter Tryz.func53, Tryz.ntmps53
    go_wp2
    go_ret;exact ⟨rfl, rfl⟩
  have hp : 0 < s.size := by omega
  have hp' : ¬ (↑s.size : Int) < 1 := by omega
  have hp'' : 1 <= (↑s.size : Int) := by omega
  clear h0;by_cases h1 : 20 < s.size
  · have R := hZ (letters_long anyC s h1)
    rw [R.out];have h1' : (20 : Int) < ↑s.size := by omega
    clear h1 R;go_enter Tryz.func53, Tryz.ntmps53
    go_wp2
    go_ret;exact ⟨rfl, rfl⟩
  have h1' : (↑s.size : Int) <= 20 := by omega
  have h1'' : ¬ (20 : Int) < ↑s.size := by omega
  go_enter Tryz.func53, Tryz.ntmps53
  go_wp2
  go_loop [5] (fun i => ∃ k : Nat, k <= s.size /\ i = .int .i64 k /\ Hid (∀ j, 0 <= j -> j < k -> anyC (bt s.data.toList j) = true)) (fun i => s.size - (intOf i).toNat)
  case atStart => exact ⟨0, by omega, rfl, hZ (fun j a b => by omega)⟩
  case round =>
    obtain ⟨k, hk, rfl, HK⟩ := hrel;by_cases hlt : k < s.size
    · have BK := hZ (bt_eq s k hlt)
      go_wp2
      all_goals
        first
        | (exfalso; simp_all <;> omega)
        | (go_ret
           exact ⟨ret_bool (letters_later anyC s k hlt (big_no BK.out (by unfold lowC digC upC; simp_all <;> omega))), rfl⟩)
        | (go_round
           case rel => exact ⟨k + 1, by omega, by go_num, hZ (upto_step (P := fun j => anyC (bt s.data.toList j)) HK.out (big_yes BK.out (by unfold lowC digC upC; simp_all <;> omega)))⟩
           case measure => simp [intOf]; omega)
    · go_wp2
      go_ret;exact ⟨ret_bool (letters_all anyC s hp (by omega) (fun j a => HK.out j (by omega) (by omega))), rfl⟩
theorem letters_pos {g : Int -> Bool} {s : ByteArray} (h : letters g s.data.toList = true) : 0 < s.size := by
  have := ((letters_iff _ _).1 h).1; rwa [len_size] at this
theorem refSmall_any (s : ByteArray) (w : World) (hs : s.size <= 9223372036854775807) :
    Calls Tryz.prog 26 #[.string s] w fun e w' => e = .returned (.bool (smallB s.data.toList)) /\ Below w.heap.size w w' := by
  rcases hid_or (letters lowDigC s.data.toList) with h | h
  · have R := hZ (small_none _ h.out)
    rw [R.out]; clear R
    go_enter Tryz.func26, Tryz.ntmps26
    go_wp2_with fail
    refine (letters_low _ _ hs).mono ?_; rintro e w' ⟨rfl, rfl⟩; rw [h.out]
    go_wp2_with fail
    refine (refKey_any _ _).mono ?_; rintro e w1 ⟨rfl, hb1⟩
    go_wp2
    go_ret;exact ⟨rfl, hb1⟩
  · have R := hZ (small_ref _ h.out)
    have hp := letters_pos h.out;have B0 := hZ (bt_eq s 0 hp);rw [R.out]; clear R
    rcases hid_or (keyB s.data.toList) with h2 | h2 <;> rw [h2.out]
    · rw [<- B0.out]
      go_enter Tryz.func26, Tryz.ntmps26
      go_wp2_with fail
      refine (letters_low _ _ hs).mono ?_; rintro e w' ⟨rfl, rfl⟩; rw [h.out]
      go_wp2_with fail
      refine (refKey_any _ _).mono ?_; rintro e w1 ⟨rfl, hb1⟩; rw [h2.out]
      go_wp2
      go_ret;exact ⟨rfl, hb1⟩
    · go_enter Tryz.func26, Tryz.ntmps26
      go_wp2_with fail
      refine (letters_low _ _ hs).mono ?_; rintro e w' ⟨rfl, rfl⟩; rw [h.out]
      go_wp2_with fail
      refine (refKey_any _ _).mono ?_; rintro e w1 ⟨rfl, hb1⟩; rw [h2.out]
      go_wp2
      go_ret;exact ⟨rfl, hb1⟩
theorem refGreat_any (s : ByteArray) (w : World) (hs : s.size <= 9223372036854775807) :
    Calls Tryz.prog 27 #[.string s] w fun e w' => e = .returned (.bool (greatB s.data.toList)) /\ w = w' := by
  rcases hid_or (letters anyC s.data.toList) with h | h
  · have R := hZ (great_none _ h.out)
    rw [R.out]; clear R
    go_enter Tryz.func27, Tryz.ntmps27
    go_wp2_with fail
    refine (letters_big _ _ hs).mono ?_; rintro e w' ⟨rfl, rfl⟩; rw [h.out]
    go_wp2
    go_ret;exact ⟨rfl, rfl⟩
  · have R := hZ (great_ref _ h.out)
    have hp := letters_pos h.out;have B0 := hZ (bt_eq s 0 hp);have E := hZ (show s.toList = s.data.toList from Lib.toList_data s);unfold greatB
    rw [R.out, <- B0.out, <- E.out]; clear R B0
    go_enter Tryz.func27, Tryz.ntmps27
    go_wp2_with fail
    refine (letters_big _ _ hs).mono ?_; rintro e w' ⟨rfl, rfl⟩; rw [h.out]
    go_wp2
    all_goals go_ret
    all_goals refine ⟨ret_bool ?_, rfl⟩
    all_goals (clear h E; rw [Bool.eq_iff_iff]; simp_all [wordB, words] <;> (intros; omega))
end Go.Proofs.YteecgiebimdbhaaGreatDoor
