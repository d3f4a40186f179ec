/-
  Several texts in one.
-/
import Derived.Test.YtddlmigofilejaaGreatDoorA0
import Derived.Lib.IndexBytes
import Derived.WalkKit
import Derived.Below
import Derived.Deep.Draws
import Derived.Lib.Hide
import Derived.ProofKit
import Derived.OpenShut
import Derived.Lib.SmallJoins
import Derived.Deep.Slices
import Derived.Deep.Strs
import Derived.DataReads
import Derived.WideShapes
import Derived.SliceStrings
import Derived.WalkSpells
import Derived.WalkLawsBesides
import Derived.RegionTactic
import Derived.IntWalk
import Derived.LoopTactic
import Derived.OwnWalk
import GoSem.Op.String
import Derived.Lib.Strings
import Derived.Deep.QuietTactic
import Derived.BigQuiet
import Derived.Deep.DeepCutAuto
import Derived.Deep.CutBlock
import Derived.OneCell
import Derived.Lib.Builder
import Derived.Sort.Walk0
import Derived.Deep.AppendLies
import Derived.Laws.OwnMore
import Derived.Test.YtddlmigofilejaaGreatDoorChecked
set_option maxHeartbeats 1000000
namespace Go.Proofs.YtddlmigofilejaaGreatDoor.M
def keys : List (List UInt8) := [[97, 115], [97, 108, 105, 97, 115], [100, 101, 112], [104, 105, 100, 100, 101, 110], [105, 109, 112, 111, 114, 116], [105, 115], [109, 111, 100, 117, 108, 101], [111, 112, 97, 113, 117, 101], [112, 97, 99, 107, 97, 103, 101], [117, 115, 101], [118, 97, 108], [118, 101, 114, 115, 105, 111, 110]]
def words : List (List UInt8) := [[73, 110, 116], [84, 101, 120, 116], [66, 111, 111, 108], [76, 105, 115, 116]]
def keyB (l : List UInt8) : Bool := keys.contains l
def wordB (l : List UInt8) : Bool := words.contains l
def lowC (n : Int) : Bool := decide (97 <= n) && decide (n <= 122)
def upC (n : Int) : Bool := decide (65 <= n) && decide (n <= 90)
def digC (n : Int) : Bool := decide (48 <= n) && decide (n <= 57)
def lowDigC (n : Int) : Bool := lowC n || digC n
def anyC (n : Int) : Bool := lowC n || upC n || digC n
def bt (l : List UInt8) (j : Nat) : Int := ((l.getD j 0).toNat : Int)
def spell (f g : Int -> Bool) (l : List UInt8) : Bool := decide (0 < l.length) && decide (l.length <= 20) && f (bt l 0) && l.tail.all (fun c => g (c.toNat : Int))
def smallB (l : List UInt8) : Bool := spell lowC lowDigC l && !keyB l
def greatB (l : List UInt8) : Bool := spell upC anyC l && !wordB l
def letters (g : Int -> Bool) (l : List UInt8) : Bool := decide (0 < l.length) && decide (l.length <= 20) && l.all (fun c => g (c.toNat : Int))
theorem bt_eq (s : ByteArray) (k : Nat) (h : k < s.size) : (s[k].toNat : Int) = bt s.data.toList k := by
  unfold bt
  rw [List.getD_eq_getElem?_getD, List.getElem?_eq_getElem (by simpa using h)];rfl
theorem all_iff (g : Int -> Bool) (l : List UInt8) : l.all (fun c => g (c.toNat : Int)) = true ↔ ∀ j, j < l.length -> g (bt l j) = true := by
  rw [List.all_eq_true];constructor
  · intro h j hj
    have := h l[j] (List.getElem_mem hj)
    unfold bt
    rw [List.getD_eq_getElem?_getD, List.getElem?_eq_getElem hj];exact this
  · intro h c hc
    obtain ⟨j, hj, rfl⟩ := List.getElem_of_mem hc;have := h j hj
    unfold bt at this
    rw [List.getD_eq_getElem?_getD, List.getElem?_eq_getElem hj] at this;exact this
theorem bt_tail (l : List UInt8) (j : Nat) : bt l.tail j = bt l (j + 1) := by
  unfold bt
  cases l <;> simp
theorem spell_iff (f g : Int -> Bool) (l : List UInt8) : spell f g l = true ↔ 0 < l.length /\ l.length <= 20 /\ f (bt l 0) = true /\ ∀ j, 1 <= j -> j < l.length -> g (bt l j) = true := by
  unfold spell
  simp only [Bool.and_eq_true, decide_eq_true_eq, all_iff];constructor
  · rintro ⟨⟨⟨h0, h1⟩, h2⟩, h3⟩
    refine ⟨h0, h1, h2, fun j hj hl => ?_⟩;have := h3 (j - 1) (by simp; omega)
    rwa [bt_tail, show j - 1 + 1 = j by omega] at this
  · rintro ⟨h0, h1, h2, h3⟩
    refine ⟨⟨⟨h0, h1⟩, h2⟩, fun j hj => ?_⟩;rw [bt_tail];exact h3 (j + 1) (by omega) (by simp at hj; omega)
theorem letters_iff (g : Int -> Bool) (l : List UInt8) : letters g l = true ↔ 0 < l.length /\ l.length <= 20 /\ ∀ j, j < l.length -> g (bt l j) = true := by
  unfold letters
  simp only [Bool.and_eq_true, decide_eq_true_eq, all_iff, and_assoc]
theorem len_size (s : ByteArray) : s.data.toList.length = s.size := by simp
theorem spell_empty (f g : Int -> Bool) (s : ByteArray) (h : s.size = 0) : spell f g s.data.toList = false := by
  rw [Bool.eq_false_iff, ne_eq, spell_iff, len_size]; omega
theorem spell_long (f g : Int -> Bool) (s : ByteArray) (h : 20 < s.size) : spell f g s.data.toList = false := by
  rw [Bool.eq_false_iff, ne_eq, spell_iff, len_size]; omega
theorem spell_first (f g : Int -> Bool) (s : ByteArray) (h : f (bt s.data.toList 0) = false) : spell f g s.data.toList = false := by
  rw [Bool.eq_false_iff, ne_eq, spell_iff]; rintro ⟨-, -, a, -⟩; rw [h] at a; cases a
theorem spell_later (f g : Int -> Bool) (s : ByteArray) (k : Nat) (h1 : 1 <= k) (h2 : k < s.size) (h : g (bt s.data.toList k) = false) : spell f g s.data.toList = false := by
  rw [Bool.eq_false_iff, ne_eq, spell_iff, len_size]; rintro ⟨-, -, -, a⟩; rw [a k h1 h2] at h; cases h
theorem spell_all (f g : Int -> Bool) (s : ByteArray) (h0 : 0 < s.size) (h1 : s.size <= 20) (h2 : f (bt s.data.toList 0) = true) (h : ∀ j, 1 <= j -> j < s.size -> g (bt s.data.toList j) = true) : spell f g s.data.toList = true := by
  rw [spell_iff, len_size]; exact ⟨h0, h1, h2, h⟩
theorem letters_empty (g : Int -> Bool) (s : ByteArray) (h : s.size = 0) : letters g s.data.toList = false := by
  rw [Bool.eq_false_iff, ne_eq, letters_iff, len_size]; omega
theorem letters_long (g : Int -> Bool) (s : ByteArray) (h : 20 < s.size) : letters g s.data.toList = false := by
  rw [Bool.eq_false_iff, ne_eq, letters_iff, len_size]; omega
theorem letters_later (g : Int -> Bool) (s : ByteArray) (k : Nat) (h2 : k < s.size) (h : g (bt s.data.toList k) = false) : letters g s.data.toList = false := by
  rw [Bool.eq_false_iff, ne_eq, letters_iff, len_size]; rintro ⟨-, -, a⟩; rw [a k h2] at h; cases h
theorem letters_all (g : Int -> Bool) (s : ByteArray) (h0 : 0 < s.size) (h1 : s.size <= 20) (h : ∀ j, j < s.size -> g (bt s.data.toList j) = true) : letters g s.data.toList = true := by
  rw [letters_iff, len_size]; exact ⟨h0, h1, h⟩
theorem lowDig_low {n : Int} (h : lowDigC n = true) : lowC n = decide (97 <= n) := by
  unfold lowDigC lowC digC at *
  rw [Bool.eq_iff_iff];simp only [Bool.or_eq_true, Bool.and_eq_true, decide_eq_true_eq] at *;omega
theorem small_ref (l : List UInt8) (h : letters lowDigC l = true) : smallB l = (!keyB l && decide (97 <= bt l 0)) := by
  have hs : spell lowC lowDigC l = decide (97 <= bt l 0) := by
    obtain ⟨h0, h1, h2⟩ := (letters_iff _ _).1 h;rw [<- lowDig_low (h2 0 h0)];cases hf : lowC (bt l 0)
    · rw [Bool.eq_false_iff, ne_eq, spell_iff]; rintro ⟨-, -, a, -⟩; rw [hf] at a; cases a
    · rw [spell_iff]; exact ⟨h0, h1, hf, fun j _ hj => h2 j hj⟩
  unfold smallB
  rw [hs, Bool.and_comm]
theorem small_none (l : List UInt8) (h : letters lowDigC l = false) : smallB l = false := by
  have hs : spell lowC lowDigC l = false := by
    rw [Bool.eq_false_iff, ne_eq, spell_iff];rintro ⟨h0, h1, h2, h3⟩;rw [Bool.eq_false_iff, ne_eq, letters_iff] at h;refine h ⟨h0, h1, fun j hj => ?_⟩;rcases j with _ | j
    · unfold lowDigC; rw [h2]; rfl
    · exact h3 (j + 1) (by omega) hj
  unfold smallB
  rw [hs]; rfl
theorem great_ref (l : List UInt8) (h : letters anyC l = true) : spell upC anyC l = (decide (65 <= bt l 0) && decide (bt l 0 <= 90)) := by
  obtain ⟨h0, h1, h2⟩ := (letters_iff _ _).1 h;show _ = upC (bt l 0)
  cases hf : upC (bt l 0)
  · rw [Bool.eq_false_iff, ne_eq, spell_iff]; rintro ⟨-, -, a, -⟩; rw [hf] at a; cases a
  · rw [spell_iff]; exact ⟨h0, h1, hf, fun j _ hj => h2 j hj⟩
theorem great_none (l : List UInt8) (h : letters anyC l = false) : greatB l = false := by
  have hs : spell upC anyC l = false := by
    rw [Bool.eq_false_iff, ne_eq, spell_iff];rintro ⟨h0, h1, h2, h3⟩;rw [Bool.eq_false_iff, ne_eq, letters_iff] at h;refine h ⟨h0, h1, fun j hj => ?_⟩;rcases j with _ | j
    · unfold anyC; rw [h2]; simp
    · exact h3 (j + 1) (by omega) hj
  unfold greatB
  rw [hs]; rfl
end Go.Proofs.YtddlmigofilejaaGreatDoor.M
namespace Go.Proofs.YtddlmigofilejaaGreatDoor.M
inductive Ty where
  | mk (kind : Int) (pkg : ByteArray) (major : Int) (mod name : ByteArray) (names : List ByteArray) (subs : List Ty)
namespace Ty
def kind : Ty -> Int | mk k _ _ _ _ _ _ => k
def pkg : Ty -> ByteArray | mk _ p _ _ _ _ _ => p
def major : Ty -> Int | mk _ _ m _ _ _ _ => m
def mod : Ty -> ByteArray | mk _ _ _ m _ _ _ => m
def name : Ty -> ByteArray | mk _ _ _ _ n _ _ => n
def names : Ty -> List ByteArray | mk _ _ _ _ _ n _ => n
def subs : Ty -> List Ty | mk _ _ _ _ _ _ s => s
end Ty
mutual
def many : Ty -> Nat
  | .mk _ _ _ _ _ _ subs => 1 + manyL subs
def manyL : List Ty -> Nat
  | [] => 0
  | t :: r => many t + manyL r
end
mutual
def deep : Ty -> Nat
  | .mk _ _ _ _ _ _ subs => deepL subs + 1
def deepL : List Ty -> Nat
  | [] => 0
  | t :: r => max (deep t) (deepL r)
end
mutual
def plainT : Ty -> Bool
  | .mk k _ _ _ _ _ subs => !(k == 8) && plainL subs
def plainL : List Ty -> Bool
  | [] => true
  | t :: r => plainT t && plainL r
end
theorem many_pos (t : Ty) : 1 <= many t := by cases t; simp [many]
theorem manyL_mem : ∀ (l : List Ty) (t : Ty), t ∈ l -> many t <= manyL l
  | a :: r, t, h => by
    unfold manyL
    rcases List.mem_cons.1 h with rfl | h
    · omega
    · have := manyL_mem r t h; omega
theorem manyL_len : ∀ l : List Ty, l.length <= manyL l
  | [] => by simp
  | t :: r => by
    have := many_pos t
    have := manyL_len r
    unfold manyL; simp only [List.length_cons]; omega
theorem manyL_append : ∀ (a b : List Ty), manyL (a ++ b) = manyL a + manyL b
  | [], b => by simp [manyL]
  | t :: r, b => by
    have := manyL_append r b
    simp only [List.cons_append, manyL, this]; omega
theorem manyL_take (l : List Ty) (k : Nat) (t : Ty) (h : l[k]? = some t) : manyL (l.take (k + 1)) = manyL (l.take k) + many t := by
  rw [List.take_add_one, h, manyL_append];simp [manyL]
end Go.Proofs.YtddlmigofilejaaGreatDoor.M
namespace Go.Proofs.YtddlmigofilejaaGreatDoor
open Go.RowKit
theorem bcell {W w1 : World} (hb : Below W.heap.size W w1) : (∀ b o, b < W.heap.size -> w1.cell? ⟨b, o, none⟩ = W.cell? ⟨b, o, none⟩) /\ (∀ b o, b < W.heap.size -> w1.frozen? ⟨b, o, none⟩ = W.frozen? ⟨b, o, none⟩) :=
  ⟨fun b o h => hb.cell (p := ⟨b, o, none⟩) h, fun b o h => hb.frozen (p := ⟨b, o, none⟩) h⟩
theorem hid_or (b : Bool) : Hid (b = false) \/ Hid (b = true) := by cases b; exact .inl rfl; exact .inr rfl
theorem ret_bool {a b : Bool} (h : b = a) : Ending.returned (.bool a) = .returned (.bool b) := by rw [h]
theorem below_over {w W w1 : World} (h : Below w.heap.size w W) (hb : Below W.heap.size W w1) : Below w.heap.size w w1 := h.trans (hb.mono h.size)
theorem below_new {w W : World} (h : Below w.heap.size w W) (o : Obj) : Below w.heap.size w (W.alloc o) := h.alloc h.size o
theorem below_put {w W : World} (h : Below w.heap.size w W) {a : Addr} (ha : w.heap.size <= a.block) (v : Value) : Below w.heap.size w (W.setCell a v) := h.setCell ha v
theorem below_drewN {B : Nat} {a w : World} (h : Below B a w) (n : Nat) : Below B a (w.drewN n) := h.trans ⟨rfl, rfl, rfl, Nat.le_refl _, fun _ _ => rfl⟩
theorem upto_step {P : Nat -> Bool} {b k : Nat} (h : ∀ j, b <= j -> j < k -> P j = true) (hk : P k = true) : ∀ j, b <= j -> j < k + 1 -> P j = true := fun j a c => by
  rcases Nat.lt_or_ge j k with d | d
  · exact h j a d
  · rw [show j = k by omega]; exact hk
end Go.Proofs.YtddlmigofilejaaGreatDoor
namespace Go.Proofs.YtddlmigofilejaaGreatDoor
open Go Go.ChangeShapes Go.WideShapes Go.ChangeAt Go.RowKit Go.Joins Go.Deep
open M
def NamesAt (w : World) (A : Option Addr) (l : List ByteArray) : Prop :=
  ∀ i s, l[i]? = some s -> ∃ g o, A = some ⟨g, o, none⟩ /\ g < w.heap.size /\ w.cell? ⟨g, o + i, none⟩ = some (.string s) /\ s.size <= 9223372036854775807
inductive TyAt (w : World) : List Value -> Ty -> Prop where
  | mk (kind : Int) (pkg : ByteArray) (major : Int) (mod name : ByteArray) (names : List ByteArray) (subs : List Ty) (An : Option Addr) (cn : Nat) (As : Option Addr) (cs : Nat) (C : Nat -> List Value)
      (hp : pkg.size <= 9223372036854775807) (hm : mod.size <= 9223372036854775807) (hn : name.size <= 9223372036854775807) (hln : names.length <= 9223372036854775807) (hls : subs.length <= 9223372036854775807) (hcs : subs.length <= cs)
      (hN : NamesAt w An names) (hl : ∀ i, (C i).length = 7)
      (hS : ∀ i t, subs[i]? = some t -> ∃ g o, As = some ⟨g, o, none⟩ /\ g < w.heap.size /\ ∀ j v, (C i)[j]? = some v -> w.cell? ⟨g, o + i * 7 + j, none⟩ = some v)
      (hT : ∀ i t, subs[i]? = some t -> TyAt w (C i) t) :
      TyAt w [.int .i64 kind, .string pkg, .int .i64 major, .string mod, .string name, .slice An names.length cn, .slice As subs.length cs] (.mk kind pkg major mod name names subs)
theorem NamesAt.below {w w' : World} {A : Option Addr} {l : List ByteArray} (h : NamesAt w A l) (hb : Below w.heap.size w w') : NamesAt w' A l := by
  intro i s hs;obtain ⟨g, o, hA, hg, hc, hz⟩ := h i s hs;exact ⟨g, o, hA, Nat.lt_of_lt_of_le hg hb.size, (hb.cell (p := ⟨g, _, none⟩) hg).trans hc, hz⟩
theorem TyAt.keep {w w' : World} (hb : Below w.heap.size w w') {l : List Value} {t : Ty} (h : TyAt w l t) : TyAt w' l t := by
  induction h with
  | mk kind pkg major mod name names subs An cn As cs C hp hm hn hln hls hcs hN hl hS hT ih =>
    refine .mk kind pkg major mod name names subs An cn As cs C hp hm hn hln hls hcs (hN.below hb) hl (fun i t ht => ?_) ih;obtain ⟨g, o, hA, hg, hc⟩ := hS i t ht;exact ⟨g, o, hA, Nat.lt_of_lt_of_le hg hb.size, fun j v hv => (hb.cell (p := ⟨g, _, none⟩) hg).trans (hc j v hv)⟩
def SubsAt (w : World) (A : Option Addr) (l : List Ty) : Prop :=
  ∀ i t, l[i]? = some t -> ∃ (g o : Nat) (v0 v1 v2 v3 v4 v5 v6 : Value), A = some ⟨g, o, none⟩ /\ g < w.heap.size /\ w.cell? ⟨g, o + i * 7, none⟩ = some v0 /\ w.cell? ⟨g, o + i * 7 + 1, none⟩ = some v1 /\ w.cell? ⟨g, o + i * 7 + 2, none⟩ = some v2 /\
    w.cell? ⟨g, o + i * 7 + 3, none⟩ = some v3 /\ w.cell? ⟨g, o + i * 7 + 4, none⟩ = some v4 /\ w.cell? ⟨g, o + i * 7 + 5, none⟩ = some v5 /\ w.cell? ⟨g, o + i * 7 + 6, none⟩ = some v6 /\ TyAt w [v0, v1, v2, v3, v4, v5, v6] t
theorem SubsAt.below {w w' : World} {A : Option Addr} {l : List Ty} (h : SubsAt w A l) (hb : Below w.heap.size w w') : SubsAt w' A l := by
  intro i t ht;obtain ⟨g, o, v0, v1, v2, v3, v4, v5, v6, hA, hg, h0, h1, h2, h3, h4, h5, h6, hT⟩ := h i t ht;have e : ∀ k v, w.cell? ⟨g, k, none⟩ = some v -> w'.cell? ⟨g, k, none⟩ = some v := fun k v hv => (hb.cell (p := ⟨g, _, none⟩) hg).trans hv
  exact ⟨g, o, v0, v1, v2, v3, v4, v5, v6, hA, Nat.lt_of_lt_of_le hg hb.size, e _ _ h0, e _ _ h1, e _ _ h2, e _ _ h3, e _ _ h4, e _ _ h5, e _ _ h6, hT.keep hb⟩
theorem list7 {α : Type} : ∀ l : List α, l.length = 7 -> ∃ a b c d e f g, l = [a, b, c, d, e, f, g]
  | [a, b, c, d, e, f, g], _ => ⟨a, b, c, d, e, f, g, rfl⟩
  | [], h => by simp at h
  | [_], h => by simp at h
  | [_, _], h => by simp at h
  | [_, _, _], h => by simp at h
  | [_, _, _, _], h => by simp at h
  | [_, _, _, _, _], h => by simp at h
  | [_, _, _, _, _, _], h => by simp at h
  | _ :: _ :: _ :: _ :: _ :: _ :: _ :: _ :: _, h => by simp at h
theorem TyAt.parts {w : World} {l : List Value} {t : Ty} (h : TyAt w l t) : ∃ (An : Option Addr) (cn : Nat) (As : Option Addr) (cs : Nat),
    l = [.int .i64 t.kind, .string t.pkg, .int .i64 t.major, .string t.mod, .string t.name, .slice An t.names.length cn, .slice As t.subs.length cs] /\
    t.pkg.size <= 9223372036854775807 /\ t.mod.size <= 9223372036854775807 /\ t.name.size <= 9223372036854775807 /\ t.names.length <= 9223372036854775807 /\ t.subs.length <= 9223372036854775807 /\ NamesAt w An t.names /\ SubsAt w As t.subs := by
  cases h with
  | mk kind pkg major mod name names subs An cn As cs C hp hm hn hln hls hcs hN hl hS hT =>
    refine ⟨An, cn, As, cs, rfl, hp, hm, hn, hln, hls, hN, fun i t ht => ?_⟩;obtain ⟨g, o, hA, hg, hc⟩ := hS i t ht;have h7 := hT i t ht;obtain ⟨v0, v1, v2, v3, v4, v5, v6, e⟩ := list7 (C i) (hl i);rw [e] at hc h7;exact ⟨g, o, v0, v1, v2, v3, v4, v5, v6, hA, hg, hc 0 _ rfl, hc 1 _ rfl, hc 2 _ rfl, hc 3 _ rfl, hc 4 _ rfl, hc 5 _ rfl, hc 6 _ rfl, h7⟩
def TyV (w : World) (v : Value) (t : Ty) : Prop := ∃ l : List Value, v = .agg l.toArray /\ TyAt w l t
theorem TyV.below {w w' : World} {v : Value} {t : Ty} (h : TyV w v t) (hb : Below w.heap.size w w') : TyV w' v t := by
  obtain ⟨l, e, h⟩ := h;exact ⟨l, e, h.keep hb⟩
section
variable {H : Type} {enc : TypeId × Value -> H} {w : World} {base : Nat} {sp : Nat -> Bool} {held : Bool}
end
end Go.Proofs.YtddlmigofilejaaGreatDoor
namespace Go.Proofs.YtddlmigofilejaaGreatDoor
open Go.RowKit
open M
def boxed (w : World) (c : Array Value) : World := w.alloc (.cells c 48)
theorem box_cell {w w' : World} {c : Array Value} (hb : Below (boxed w c).heap.size (boxed w c) w') (i : Nat) : w'.cell? ⟨w.heap.size, i, none⟩ = c[i]? := by
  have h : (boxed w c).cell? ⟨w.heap.size, i, none⟩ = c[i]? := cell_of_row _ _ i c _ (0, 0) (heap_alloc_new w _);exact (hb.cell (p := ⟨w.heap.size, i, none⟩) (by simp [boxed])).trans h
theorem box_below {w w' : World} {c : Array Value} (hb : Below (boxed w c).heap.size (boxed w c) w') : Below w.heap.size w w' :=
  (below_new (Below.refl _ _) _).trans (hb.mono (by simp [boxed]))
theorem ret_int' {a b : Int} (h : b = a) : Ending.returned (.int .i64 a) = .returned (.int .i64 b) := by rw [h]
theorem manyL_eq (t : Ty) : many t = 1 + manyL t.subs := by cases t; rfl
theorem sub_many {t : Ty} {k : Nat} {s : Ty} (h : t.subs[k]? = some s) : many s < many t := by
  have := manyL_mem t.subs s (List.mem_of_getElem? h)
  rw [manyL_eq t]; omega
theorem TyAt.seven {w : World} {v0 v1 v2 v3 v4 v5 v6 : Value} {t : Ty} (h : TyAt w [v0, v1, v2, v3, v4, v5, v6] t) : ∃ (An : Option Addr) (cn : Nat) (As : Option Addr) (cs : Nat),
    v0 = .int .i64 t.kind /\ v1 = .string t.pkg /\ v2 = .int .i64 t.major /\ v3 = .string t.mod /\ v4 = .string t.name /\ v5 = .slice An t.names.length cn /\ v6 = .slice As t.subs.length cs := by
  obtain ⟨An, cn, As, cs, e, -⟩ := h.parts;exact ⟨An, cn, As, cs, by simpa using e⟩
end Go.Proofs.YtddlmigofilejaaGreatDoor
namespace Go.Proofs.YtddlmigofilejaaGreatDoor.M
open Go
def leS (a b : ByteArray) : Bool := Op.bytesLess a.toList b.toList || a.toList == b.toList
def nameAt (l : List ByteArray) (i : Nat) : ByteArray := l.getD i ⟨#[]⟩
def badName (kind : Int) (names : List ByteArray) (i : Nat) : Bool :=
  (kind == 5 && !smallB (nameAt names i).data.toList) || (kind == 6 && !greatB (nameAt names i).data.toList) || (decide (0 < i) && leS (nameAt names i) (nameAt names (i - 1)))
def namesOk (kind : Int) (names : List ByteArray) : Bool := (List.range names.length).all fun i => !badName kind names i
def emptyB (s : ByteArray) : Bool := decide (s.size = 0)
def noMore (t : Ty) : Bool := emptyB t.pkg && (t.major == 0) && emptyB t.mod && emptyB t.name
def shapeOk (t : Ty) : Bool :=
  if t.kind = 1 \/ t.kind = 2 \/ t.kind = 3 then noMore t && decide (t.subs.length = 0) && decide (t.names.length = 0)
  else if t.kind = 4 then noMore t && decide (t.subs.length = 1) && decide (t.names.length = 0)
  else if t.kind = 5 then noMore t && decide (t.subs.length = t.names.length)
  else if t.kind = 6 then noMore t && decide (t.subs.length = t.names.length) && decide (0 < t.subs.length)
  else if t.kind = 7 then noMore t && decide (0 < t.subs.length) && decide (t.names.length = 0)
  else if t.kind = 8 then decide (t.subs.length = 0) && decide (t.names.length = 0) && emptyB t.pkg && (t.major == 0) && greatB t.name.data.toList && (smallB t.mod.data.toList || emptyB t.mod)
  else if t.kind = 9 then decide (t.subs.length = 0) && decide (t.names.length = 0) && smallB t.pkg.data.toList && smallB t.mod.data.toList && greatB t.name.data.toList && decide (1 <= t.major) && decide (t.major <= 999999999)
  else false
def ownOk (t : Ty) : Bool := decide (t.subs.length <= 20) && namesOk t.kind t.names && shapeOk t
mutual
def allOk : Ty -> Bool
  | .mk k p m d n names subs => ownOk (.mk k p m d n names subs) && allOkL subs
def allOkL : List Ty -> Bool
  | [] => true
  | t :: r => allOk t && allOkL r
end
def mayT (t : Ty) : Bool := allOk t && decide (many t <= 500) && decide (deep t <= 32)
theorem namesOk_iff (kind : Int) (names : List ByteArray) : namesOk kind names = true ↔ ∀ i, i < names.length -> badName kind names i = false := by
  unfold namesOk
  simp [List.all_eq_true]
end Go.Proofs.YtddlmigofilejaaGreatDoor.M
namespace Go.Proofs.YtddlmigofilejaaGreatDoor
open Go.RowKit
open M
theorem lower_any (n : Int) (w : World) : Calls Tryz.prog 142 #[.int .u8 n] w fun e w' => e = .returned (.bool (lowC n)) /\ w = w' := by
  go_enter Tryz.func142, Tryz.ntmps142
  go_wp2
  all_goals go_ret
  all_goals exact ⟨ret_bool (by unfold lowC; simp_all; try omega), rfl⟩
theorem upper_any (n : Int) (w : World) : Calls Tryz.prog 163 #[.int .u8 n] w fun e w' => e = .returned (.bool (upC n)) /\ w = w' := by
  go_enter Tryz.func163, Tryz.ntmps163
  go_wp2
  all_goals go_ret
  all_goals exact ⟨ret_bool (by unfold upC; simp_all; try omega), rfl⟩
theorem digit_any (n : Int) (w : World) : Calls Tryz.prog 177 #[.int .u8 n] w fun e w' => e = .returned (.bool (digC n)) /\ w = w' := by
  go_enter Tryz.func177, Tryz.ntmps177
  go_wp2
  all_goals go_ret
  all_goals exact ⟨ret_bool (by unfold digC; simp_all; try omega), rfl⟩
theorem lowDig_any (n : Int) (w : World) : Calls Tryz.prog 143 #[.int .u8 n] w fun e w' => e = .returned (.bool (lowDigC n)) /\ w = w' := by
  unfold lowDigC
  rcases hid_or (lowC n) with h | h <;> rw [h.out]
  all_goals
    go_enter Tryz.func143, Tryz.ntmps143
    go_wp2_with fail
    refine (lower_any _ _).mono ?_; rintro e w' ⟨rfl, rfl⟩; rw [h.out]
    go_wp2_with (go_at_call 177; refine (digit_any _ _).mono ?_; rintro e w' ⟨rfl, rfl⟩)
    go_ret;exact ⟨rfl, rfl⟩
theorem any_any (n : Int) (w : World) : Calls Tryz.prog 164 #[.int .u8 n] w fun e w' => e = .returned (.bool (anyC n)) /\ w = w' := by
  unfold anyC
  rcases hid_or (lowC n) with h | h <;> rw [h.out]
  · rcases hid_or (upC n) with h2 | h2 <;> rw [h2.out]
    all_goals
      go_enter Tryz.func164, Tryz.ntmps164
      go_wp2_with fail
      refine (lower_any _ _).mono ?_; rintro e w' ⟨rfl, rfl⟩; rw [h.out]
      go_wp2_with fail
      refine (upper_any _ _).mono ?_; rintro e w' ⟨rfl, rfl⟩; rw [h2.out]
      go_wp2_with (go_at_call 177; refine (digit_any _ _).mono ?_; rintro e w' ⟨rfl, rfl⟩)
      go_ret;exact ⟨rfl, rfl⟩
  · go_enter Tryz.func164, Tryz.ntmps164
    go_wp2_with fail
    refine (lower_any _ _).mono ?_; rintro e w' ⟨rfl, rfl⟩; rw [h.out]
    go_wp2
    go_ret;exact ⟨rfl, rfl⟩
theorem key_any (s : ByteArray) (w : World) : Calls Tryz.prog 144 #[.string s] w fun e w' => e = .returned (.bool (keyB s.data.toList)) /\ w = w' := by
  have E := zH (show s.toList = s.data.toList from Lib.toList_data s);go_enter Tryz.func144, Tryz.ntmps144
  go_wp2
  all_goals go_ret
  all_goals refine ⟨ret_bool ?_, rfl⟩
  all_goals (rw [<- E.out]; clear E; simp_all [keyB, keys])
theorem word_any (s : ByteArray) (w : World) : Calls Tryz.prog 165 #[.string s] w fun e w' => e = .returned (.bool (wordB s.data.toList)) /\ w = w' := by
  have E := zH (show s.toList = s.data.toList from Lib.toList_data s);go_enter Tryz.func165, Tryz.ntmps165
  go_wp2
  all_goals go_ret
  all_goals refine ⟨ret_bool ?_, rfl⟩
  all_goals (rw [<- E.out]; clear E; simp_all [wordB, words])
theorem empty_facts (s : ByteArray) (h : s.size = 0) : s.toList = [] /\ s.toList.isEmpty = true := by
  have hl : s.data.toList = [] := by rw [<- List.length_eq_zero_iff, len_size]; exact h
  have g1 : s.toList = [] := by rw [Lib.toList_data, hl]
  exact ⟨g1, by rw [g1]; rfl⟩
theorem full_facts (s : ByteArray) (h : ¬ s.size = 0) : ¬ s.toList = [] /\ s.toList.isEmpty = false := by
  have hl : s.data.toList ≠ [] := by intro e; apply h; rw [<- len_size, e]; rfl
  have g1 : ¬ s.toList = [] := by rw [Lib.toList_data]; exact hl
  exact ⟨g1, by simpa using g1⟩
theorem spelled_low (s : ByteArray) (w : World) (hs : s.size <= 9223372036854775807) :
    Calls Tryz.prog 141 #[.string s, .func (.func 142) #[] #[], .func (.func 143) #[] #[]] w fun e w' => e = .returned (.bool (spell lowC lowDigC s.data.toList)) /\ w = w' := by
  by_cases h0 : s.size = 0
  · have R := zH (spell_empty lowC lowDigC s h0)
    rw [R.out];obtain ⟨g1, g2⟩ := empty_facts s h0;clear h0 R;go_enter Tryz.func141, Tryz.ntmps141
    go_wp2
    go_ret;exact ⟨rfl, rfl⟩
  obtain ⟨g1, g2⟩ := full_facts s h0;have hp : 0 < s.size := by omega
  clear h0;by_cases h1 : 20 < s.size
  · have R := zH (spell_long lowC lowDigC s h1)
    rw [R.out];have h1' : (20 : Int) < ↑s.size := by omega
    clear h1 R;go_enter Tryz.func141, Tryz.ntmps141
    go_wp2
    go_ret;exact ⟨rfl, rfl⟩
  have h1' : (↑s.size : Int) <= 20 := by omega
  have h1'' : ¬ (20 : Int) < ↑s.size := by omega
  have B0 := zH (bt_eq s 0 hp);rcases hid_or (lowC (bt s.data.toList 0)) with hf | hf
  · have R := zH (spell_first lowC lowDigC s hf.out)
    rw [R.out];clear h1 R;go_enter Tryz.func141, Tryz.ntmps141
    go_wp2_with fail
    rw [B0.out];refine (lower_any _ _).mono ?_; rintro e w' ⟨rfl, rfl⟩; rw [hf.out]
    go_wp2
    go_ret;exact ⟨rfl, rfl⟩
  go_enter Tryz.func141, Tryz.ntmps141
  go_wp2_with fail
  rw [B0.out];refine (lower_any _ _).mono ?_; rintro e w' ⟨rfl, rfl⟩; rw [hf.out]
  go_wp2
  go_loop [7] (fun i => ∃ k : Nat, 1 <= k /\ k <= s.size /\ i = .int .i64 k /\ Hid (∀ j, 1 <= j -> j < k -> lowDigC (bt s.data.toList j) = true)) (fun i => s.size - (intOf i).toNat)
  case atStart => exact ⟨1, by omega, by omega, rfl, zH (fun j a b => by omega)⟩
  case round =>
    obtain ⟨k, hk1, hk, rfl, HK⟩ := hrel;by_cases hlt : k < s.size
    · have BK := zH (bt_eq s k hlt)
      rcases hid_or (lowDigC (bt s.data.toList k)) with hg | hg
      · go_wp2_with fail
        rw [BK.out];refine (lowDig_any _ _).mono ?_; rintro e w' ⟨rfl, rfl⟩; rw [hg.out]
        go_wp2
        go_ret;exact ⟨ret_bool (spell_later lowC lowDigC s k hk1 hlt hg.out), rfl⟩
      · go_wp2_with fail
        rw [BK.out];refine (lowDig_any _ _).mono ?_; rintro e w' ⟨rfl, rfl⟩; rw [hg.out]
        go_wp2
        go_round
        case rel => exact ⟨k + 1, by omega, by omega, by go_num, zH (upto_step (P := fun j => lowDigC (bt s.data.toList j)) HK.out hg.out)⟩
        case measure => simp [intOf]; omega
    · go_wp2
      go_ret;exact ⟨ret_bool (spell_all lowC lowDigC s hp (by omega) hf.out (fun j a b => HK.out j a (by omega))), rfl⟩
theorem spelled_up (s : ByteArray) (w : World) (hs : s.size <= 9223372036854775807) :
    Calls Tryz.prog 141 #[.string s, .func (.func 163) #[] #[], .func (.func 164) #[] #[]] w fun e w' => e = .returned (.bool (spell upC anyC s.data.toList)) /\ w = w' := by
  by_cases h0 : s.size = 0
  · have R := zH (spell_empty upC anyC s h0)
    rw [R.out];obtain ⟨g1, g2⟩ := empty_facts s h0;clear h0 R;go_enter Tryz.func141, Tryz.ntmps141
    go_wp2
    go_ret;exact ⟨rfl, rfl⟩
  obtain ⟨g1, g2⟩ := full_facts s h0;have hp : 0 < s.size := by omega
  clear h0;by_cases h1 : 20 < s.size
  · have R := zH (spell_long upC anyC s h1)
    rw [R.out];have h1' : (20 : Int) < ↑s.size := by omega
    clear h1 R;go_enter Tryz.func141, Tryz.ntmps141
    go_wp2
    go_ret;exact ⟨rfl, rfl⟩
  have h1' : (↑s.size : Int) <= 20 := by omega
  have h1'' : ¬ (20 : Int) < ↑s.size := by omega
  have B0 := zH (bt_eq s 0 hp);rcases hid_or (upC (bt s.data.toList 0)) with hf | hf
  · have R := zH (spell_first upC anyC s hf.out)
    rw [R.out];clear h1 R;go_enter Tryz.func141, Tryz.ntmps141
    go_wp2_with fail
    rw [B0.out];refine (upper_any _ _).mono ?_; rintro e w' ⟨rfl, rfl⟩; rw [hf.out]
    go_wp2
    go_ret;exact ⟨rfl, rfl⟩
  go_enter Tryz.func141, Tryz.ntmps141
  go_wp2_with fail
  rw [B0.out];refine (upper_any _ _).mono ?_; rintro e w' ⟨rfl, rfl⟩; rw [hf.out]
  go_wp2
  go_loop [7] (fun i => ∃ k : Nat, 1 <= k /\ k <= s.size /\ i = .int .i64 k /\ Hid (∀ j, 1 <= j -> j < k -> anyC (bt s.data.toList j) = true)) (fun i => s.size - (intOf i).toNat)
  case atStart => exact ⟨1, by omega, by omega, rfl, zH (fun j a b => by omega)⟩
  case round =>
    obtain ⟨k, hk1, hk, rfl, HK⟩ := hrel;by_cases hlt : k < s.size
    · have BK := zH (bt_eq s k hlt)
      rcases hid_or (anyC (bt s.data.toList k)) with hg | hg
      · go_wp2_with fail
        rw [BK.out];refine (any_any _ _).mono ?_; rintro e w' ⟨rfl, rfl⟩; rw [hg.out]
        go_wp2
        go_ret;exact ⟨ret_bool (spell_later upC anyC s k hk1 hlt hg.out), rfl⟩
      · go_wp2_with fail
        rw [BK.out];refine (any_any _ _).mono ?_; rintro e w' ⟨rfl, rfl⟩; rw [hg.out]
        go_wp2
        go_round
        case rel => exact ⟨k + 1, by omega, by omega, by go_num, zH (upto_step (P := fun j => anyC (bt s.data.toList j)) HK.out hg.out)⟩
        case measure => simp [intOf]; omega
    · go_wp2
      go_ret;exact ⟨ret_bool (spell_all upC anyC s hp (by omega) hf.out (fun j a b => HK.out j a (by omega))), rfl⟩
theorem small_any (s : ByteArray) (w : World) (hs : s.size <= 9223372036854775807) :
    Calls Tryz.prog 98 #[.string s] w fun e w' => e = .returned (.bool (smallB s.data.toList)) /\ w = w' := by
  unfold smallB
  rcases hid_or (spell lowC lowDigC s.data.toList) with h | h <;> rw [h.out]
  · go_enter Tryz.func98, Tryz.ntmps98
    go_wp2_with fail
    refine (spelled_low _ _ hs).mono ?_; rintro e w' ⟨rfl, rfl⟩; rw [h.out]
    go_wp2
    go_ret;exact ⟨rfl, rfl⟩
  · go_enter Tryz.func98, Tryz.ntmps98
    go_wp2_with fail
    refine (spelled_low _ _ hs).mono ?_; rintro e w' ⟨rfl, rfl⟩; rw [h.out]
    go_wp2_with fail
    refine (key_any _ _).mono ?_; rintro e w' ⟨rfl, rfl⟩
    go_wp2
    go_ret;exact ⟨rfl, rfl⟩
theorem great_any (s : ByteArray) (w : World) (hs : s.size <= 9223372036854775807) :
    Calls Tryz.prog 122 #[.string s] w fun e w' => e = .returned (.bool (greatB s.data.toList)) /\ w = w' := by
  unfold greatB
  rcases hid_or (spell upC anyC s.data.toList) with h | h <;> rw [h.out]
  · go_enter Tryz.func122, Tryz.ntmps122
    go_wp2_with fail
    refine (spelled_up _ _ hs).mono ?_; rintro e w' ⟨rfl, rfl⟩; rw [h.out]
    go_wp2
    go_ret;exact ⟨rfl, rfl⟩
  · go_enter Tryz.func122, Tryz.ntmps122
    go_wp2_with fail
    refine (spelled_up _ _ hs).mono ?_; rintro e w' ⟨rfl, rfl⟩; rw [h.out]
    go_wp2_with fail
    refine (word_any _ _).mono ?_; rintro e w' ⟨rfl, rfl⟩
    go_wp2
    go_ret;exact ⟨rfl, rfl⟩
def Cnt (B : Nat) (c : Int) (w : World) : Prop := w.heap[B]? = some (.cells #[.int .i64 c] 3 (0, 0))
theorem Cnt.lt {B : Nat} {c : Int} {w : World} (h : Cnt B c w) : B < w.heap.size := (Array.getElem?_eq_some_iff.1 h).1
theorem Cnt.cell {B : Nat} {c : Int} {w : World} (h : Cnt B c w) : w.cell? ⟨B, 0, none⟩ = some (.int .i64 c) := cZ h 0
theorem Cnt.frozen {B : Nat} {c : Int} {w : World} (h : Cnt B c w) : w.frozen? ⟨B, 0, none⟩ = false := Lib.frozen_of_heap h 0
theorem Cnt.alloc {B : Nat} {c : Int} {w : World} (h : Cnt B c w) (o : Obj) : Cnt B c (w.alloc o) := (Lib.alloc_old w o B h.lt).trans h
theorem Cnt.put {B : Nat} {c : Int} {w : World} (h : Cnt B c w) (d : Int) : Cnt B d (w.setCell ⟨B, 0, none⟩ (.int .i64 d)) := one_setCell h
theorem Cnt.below {B : Nat} {c : Int} {w w' : World} (h : Cnt B c w) (hb : Below w.heap.size w w') : Cnt B c w' := (hb.block B h.lt).trans h
end Go.Proofs.YtddlmigofilejaaGreatDoor
namespace Go.Proofs.YtddlmigofilejaaGreatDoor.M
mutual
def sameT : Ty -> Ty -> Bool
  | .mk k p m d n ns ss, .mk k' p' m' d' n' ns' ss' => decide (k = k') && decide (p = p') && decide (m = m') && decide (d = d') && decide (n = n') && decide (ns = ns') && sameL ss ss'
def sameL : List Ty -> List Ty -> Bool
  | [], [] => true
  | [], _ :: _ => false
  | _ :: _, [] => false
  | a :: r, b :: q => sameT a b && sameL r q
end
mutual
theorem sameT_iff : ∀ a b : Ty, sameT a b = true ↔ a = b
  | .mk k p m d n ns ss, .mk k' p' m' d' n' ns' ss' => by
    have := sameL_iff ss ss'
    unfold sameT
    simp only [Bool.and_eq_true, decide_eq_true_eq, this, Ty.mk.injEq];simp only [and_assoc]
theorem sameL_iff : ∀ a b : List Ty, sameL a b = true ↔ a = b
  | [], [] => by simp [sameL]
  | [], _ :: _ => by simp [sameL]
  | _ :: _, [] => by simp [sameL]
  | a :: r, b :: q => by
    have h1 := sameT_iff a b;have h2 := sameL_iff r q;unfold sameL
    simp only [Bool.and_eq_true, h1, h2, List.cons.injEq]
end
theorem sameT_no {a b : Ty} (h : a ≠ b) : sameT a b = false := by
  rw [Bool.eq_false_iff, ne_eq, sameT_iff]; exact h
theorem ty_ext {a b : Ty} (h1 : a.kind = b.kind) (h2 : a.pkg = b.pkg) (h3 : a.major = b.major) (h4 : a.mod = b.mod) (h5 : a.name = b.name) (h6 : a.names = b.names) (h7 : a.subs = b.subs) : a = b := by
  cases a; cases b
  simp only [Ty.kind, Ty.pkg, Ty.major, Ty.mod, Ty.name, Ty.names, Ty.subs] at *;subst h1 h2 h3 h4 h5 h6 h7;rfl
theorem bytes_list {a b : ByteArray} : a.data.toList = b.data.toList ↔ a = b := by
  constructor
  · intro h
    cases a; cases b; simp at h; simpa using h
  · rintro rfl; rfl
theorem list_ext' {α : Type} {a b : List α} (hl : a.length = b.length) (h : ∀ (i : Nat) (x y : α), a[i]? = some x -> b[i]? = some y -> x = y) : a = b := by
  apply List.ext_getElem? 
  intro i;rcases Nat.lt_or_ge i a.length with hi | hi
  · rw [List.getElem?_eq_getElem hi, List.getElem?_eq_getElem (by omega)]
    exact congrArg some (h i _ _ (List.getElem?_eq_getElem hi) (List.getElem?_eq_getElem (by omega)))
  · rw [List.getElem?_eq_none hi, List.getElem?_eq_none (by omega)]
end Go.Proofs.YtddlmigofilejaaGreatDoor.M
namespace Go.Proofs.YtddlmigofilejaaGreatDoor
open Go
open Go.Sort
open M
def AtN (t : Ty) (s : ByteArray) (x : Ty) : Prop := ∃ i : Nat, t.names[i]? = some s /\ t.subs[i]? = some x
theorem sub_lt {x t : Ty} (h : x ∈ t.subs) : many x < many t := by
  have h1 := manyL_mem _ _ h;have e : many t = 1 + manyL t.subs := by cases t; rfl
  omega
theorem sub_lt_at {x t : Ty} {i : Nat} (h : t.subs[i]? = some x) : many x < many t := sub_lt (List.mem_of_getElem? h)
theorem AtN.lt {t x : Ty} {s : ByteArray} (h : AtN t s x) : many x < many t := by
  obtain ⟨i, -, h⟩ := h;exact sub_lt_at h
theorem empty_is {s : ByteArray} (h : emptyB s = true) : s = ⟨#[]⟩ := by
  unfold emptyB at h
  have h := of_decide_eq_true h;cases s with | mk d => cases d with | mk l =>
  simp only [ByteArray.size, List.size_toArray, List.length_eq_zero_iff] at h;rw [h]
structure Bare (t : Ty) : Prop where
  pkg : t.pkg = ⟨#[]⟩
  major : t.major = 0
  mod : t.mod = ⟨#[]⟩
  name : t.name = ⟨#[]⟩
def SubR (a b : Ty) : Prop :=
  a.kind = b.kind /\
  (a.kind = 5 -> ∀ s y, AtN b s y -> ∃ x, ∃ _ : AtN a s x, ∃ _ : AtN b s y, SubR x y) /\
  (a.kind = 6 -> ∀ s x, AtN a s x -> ∃ y, ∃ _ : AtN a s x, ∃ _ : AtN b s y, SubR x y) /\
  ((a.kind = 4 \/ a.kind = 7) -> a.subs.length = b.subs.length /\ ∀ i x y, (hx : a.subs[i]? = some x) -> (hy : b.subs[i]? = some y) -> (i + 1 = a.subs.length -> SubR x y) /\ (i + 1 ≠ a.subs.length -> SubR y x)) /\
  ((a.kind ≠ 4 /\ a.kind ≠ 5 /\ a.kind ≠ 6 /\ a.kind ≠ 7) -> a = b)
termination_by many a + many b
decreasing_by
  · rename_i h1 h2
    have := h1.lt; have := h2.lt; omega
  · rename_i h1 h2
    have := h1.lt; have := h2.lt; omega
  · have := sub_lt_at hx; have := sub_lt_at hy; omega
  · have := sub_lt_at hx; have := sub_lt_at hy; omega
def Le (up : Bool) (a b : Ty) : Prop := if up = true then SubR a b else SubR b a
open Classical in
noncomputable def subB (a b : Ty) : Bool := decide (SubR a b)
end Go.Proofs.YtddlmigofilejaaGreatDoor
namespace Go.Proofs.YtddlmigofilejaaGreatDoor.M
open Go
structure Toks where
 n : Nat
 K : Nat -> Int
 T : Nat -> ByteArray
inductive Res (α : Type) where
 | ok (x : α) (i c : Nat)
 | err (b i : Nat)
namespace Toks
variable (S : Toks)
def small (i : Nat) : Bool := decide (i < S.n) && (S.K i == 1) && smallB (S.T i).data.toList
def great (i : Nat) : Bool := decide (i < S.n) && (S.K i == 2) && greatB (S.T i).data.toList
def sign (i : Nat) (l : List UInt8) : Bool := decide (i < S.n) && (S.K i == 4) && ((S.T i).data.toList == l)
end Toks
def Toks.nameOk (S : Toks) (k : Int) (i : Nat) : Bool := if k = 5 then S.small i else S.great i
def baseT (l : List UInt8) : Int := if l = [73, 110, 116] then 1 else if l = [84, 101, 120, 116] then 2 else if l = [66, 111, 111, 108] then 3 else if l = [76, 105, 115, 116] then 4 else 0
def Toks.begins (S : Toks) (i : Nat) : Bool :=
 decide (i < S.n) && (S.small i || S.great i || ((S.K i == 4) && ((S.T i).data.toList == [123] || (S.T i).data.toList == [91] || (S.T i).data.toList == [40] || (S.T i).data.toList == [60])) || ((S.K i == 2) && decide (0 < baseT (S.T i).data.toList)))
def digs : List UInt8 -> Int -> Int
 | [], a => a
 | c :: r, a => digs r (10 * a + ((c.toNat : Int) - 48))
def majorOk (l : List UInt8) : Bool := decide (1 <= l.length) && decide (l.length <= 9) && l.all (fun c => digC (c.toNat : Int)) && decide (48 < bt l 0)
def Toks.major (S : Toks) (i : Nat) : Bool := decide (i < S.n) && (S.K i == 3) && majorOk (S.T i).data.toList
def posOf (s : ByteArray) (ns : List ByteArray) : Nat -> Nat
 | 0 => 0
 | k + 1 => if Op.bytesLess s.toList (nameAt ns k).toList = true then posOf s ns k else k + 1
def putAt {α : Type} (p : Nat) (x : α) (l : List α) : List α := l.take p ++ x :: l.drop p
def twice (s : ByteArray) (ns : List ByteArray) : Bool := ns.any fun x => x.data.toList == s.data.toList
def noT : Ty := .mk 0 ⟨#[]⟩ 0 ⟨#[]⟩ ⟨#[]⟩ [] []
def leafK (k : Int) : Ty := .mk k ⟨#[]⟩ 0 ⟨#[]⟩ ⟨#[]⟩ [] []
def localT (d n : ByteArray) : Ty := .mk 8 ⟨#[]⟩ 0 d n [] []
def pOpen (S : Toks) (i c : Nat) : Res Ty :=
 if S.small i = false then .err 2 i
 else if S.major (i + 1) = false then .err 2 (i + 1)
 else if S.small (i + 2) = false then .err 2 (i + 2)
 else if S.great (i + 3) = false then .err 2 (i + 3)
 else if S.sign (i + 4) [62] = false then .err 2 (i + 4)
 else .ok (.mk 9 (S.T i) (digs (S.T (i + 1)).data.toList 0) (S.T (i + 2)) (S.T (i + 3)) [] []) (i + 5) c
def pLocal (S : Toks) (d : ByteArray) (i c : Nat) : Res Ty :=
 if S.sign i [46] = false then .err 2 i
 else if S.great (i + 1) = false then .err 2 (i + 1)
 else .ok (localT d (S.T (i + 1))) (i + 2) c
mutual
def pT (S : Toks) : Nat -> Nat -> Nat -> Nat -> Res Ty
  | 0, _, _, _ => .err 99 0
  | f + 1, d, i, c =>
    if S.begins i = false then .err 2 i
    else if 32 < d \/ 500 <= c then .err 3 i
    else if S.K i = 1 then pLocal S (S.T i) (i + 1) (c + 1)
    else if S.K i = 2 then
      (if baseT (S.T i).data.toList = 4 then
        (if S.sign (i + 1) [40] = false then .err 2 (i + 1)
         else match pT S f (d + 1) (i + 2) (c + 1) with
          | .err b j => .err b j
          | .ok s j c' => if S.sign j [41] = false then .err 2 j else .ok (.mk 4 ⟨#[]⟩ 0 ⟨#[]⟩ ⟨#[]⟩ [] [s]) (j + 1) c')
       else if 0 < baseT (S.T i).data.toList then .ok (leafK (baseT (S.T i).data.toList)) (i + 1) (c + 1)
       else .ok (localT ⟨#[]⟩ (S.T i)) (i + 1) (c + 1))
    else if (S.T i).data.toList = [123] then (if S.sign (i + 1) [125] = true then .ok (leafK 5) (i + 2) (c + 1) else pParts S 5 [125] f d (i + 1) (c + 1) [] [])
    else if (S.T i).data.toList = [91] then pParts S 6 [93] f d (i + 1) (c + 1) [] []
    else if (S.T i).data.toList = [60] then pOpen S (i + 1) (c + 1)
    else if S.sign (i + 1) [41] = true then pEnd S f d (i + 2) (c + 1) []
    else pSubs S f d (i + 1) (c + 1) []
def pParts (S : Toks) (k : Int) (z : List UInt8) : Nat -> Nat -> Nat -> Nat -> List ByteArray -> List Ty -> Res Ty
  | 0, _, _, _, _, _ => .err 99 0
  | f + 1, d, i, c, ns, ss =>
    if S.nameOk k i = false then .err 2 i
    else if 20 <= ns.length then .err 3 i
    else if twice (S.T i) ns = true then .err 5 i
    else if S.sign (i + 1) [58] = false then .err 2 (i + 1)
    else match pT S f (d + 1) (i + 2) c with
      | .err b j => .err b j
      | .ok s j c' =>
        if S.sign j z = true then .ok (.mk k ⟨#[]⟩ 0 ⟨#[]⟩ ⟨#[]⟩ (putAt (posOf (S.T i) ns ns.length) (S.T i) ns) (putAt (posOf (S.T i) ns ns.length) s ss)) (j + 1) c'
        else if S.sign j [44] = false then .err 2 j
        else pParts S k z f d (j + 1) c' (putAt (posOf (S.T i) ns ns.length) (S.T i) ns) (putAt (posOf (S.T i) ns ns.length) s ss)
def pSubs (S : Toks) : Nat -> Nat -> Nat -> Nat -> List Ty -> Res Ty
  | 0, _, _, _, _ => .err 99 0
  | f + 1, d, i, c, ss =>
    if S.begins i = true /\ 20 <= ss.length then .err 3 i
    else match pT S f (d + 1) i c with
      | .err b j => .err b j
      | .ok s j c' =>
        if S.sign j [41] = true then pEnd S f d (j + 1) c' (ss ++ [s])
        else if S.sign j [44] = false then .err 2 j
        else pSubs S f d (j + 1) c' (ss ++ [s])
def pEnd (S : Toks) : Nat -> Nat -> Nat -> Nat -> List Ty -> Res Ty
  | 0, _, _, _, _ => .err 99 0
  | f + 1, d, i, c, ss =>
    if S.sign i [45, 62] = false then .err 2 i
    else if S.begins (i + 1) = true /\ 20 <= ss.length then .err 3 (i + 1)
    else match pT S f (d + 1) (i + 1) c with
      | .err b j => .err b j
      | .ok s j c' => .ok (.mk 7 ⟨#[]⟩ 0 ⟨#[]⟩ ⟨#[]⟩ [] (ss ++ [s])) j c'
end
def Res.far {α : Type} : Res α -> Nat -> Prop
 | .ok _ j _, i => i < j
 | .err b _, _ => b ≠ 99
theorem sign_lt {S : Toks} {i : Nat} {l : List UInt8} (h : S.sign i l = true) : i < S.n := by
 unfold Toks.sign at h; simp only [Bool.and_eq_true, decide_eq_true_eq] at h; exact h.1.1
theorem small_lt {S : Toks} {i : Nat} (h : S.small i = true) : i < S.n := by
 unfold Toks.small at h; simp only [Bool.and_eq_true, decide_eq_true_eq] at h; exact h.1.1
theorem great_lt {S : Toks} {i : Nat} (h : S.great i = true) : i < S.n := by
 unfold Toks.great at h; simp only [Bool.and_eq_true, decide_eq_true_eq] at h; exact h.1.1
theorem begins_lt {S : Toks} {i : Nat} (h : S.begins i = true) : i < S.n := by
 unfold Toks.begins at h; simp only [Bool.and_eq_true, decide_eq_true_eq] at h; exact h.1
theorem pOpen_far (S : Toks) (i c k : Nat) (h : k <= i) : (pOpen S i c).far k := by
 unfold pOpen
 split
 ·exact (by decide : (2 : Nat) ≠ 99)
 split
 ·exact (by decide : (2 : Nat) ≠ 99)
 split
 ·exact (by decide : (2 : Nat) ≠ 99)
 split
 ·exact (by decide : (2 : Nat) ≠ 99)
 split
 ·exact (by decide : (2 : Nat) ≠ 99)
 ·show k < i + 5; omega
theorem pLocal_far (S : Toks) (d : ByteArray) (i c k : Nat) (h : k <= i) : (pLocal S d i c).far k := by
 unfold pLocal
 split
 ·exact (by decide : (2 : Nat) ≠ 99)
 split
 ·exact (by decide : (2 : Nat) ≠ 99)
 ·show k < i + 2; omega
theorem two : (2 : Nat) ≠ 99 := by decide
theorem three : (3 : Nat) ≠ 99 := by decide
theorem five : (5 : Nat) ≠ 99 := by decide
theorem steps (S : Toks) : ∀ f, (∀ d i c, 2 * (S.n - i) + 1 <= f -> (pT S f d i c).far i) /\ (∀ k z d i c ns ss, 2 * (S.n - i) + 2 <= f -> (pParts S k z f d i c ns ss).far i) /\
  (∀ d i c ss, 2 * (S.n - i) + 2 <= f -> (pSubs S f d i c ss).far i) /\ (∀ d i c ss, 2 * (S.n - i) + 2 <= f -> (pEnd S f d i c ss).far i) := by
 intro f
 induction f with
 | zero => exact ⟨fun d i c h => by omega, fun k z d i c ns ss h => by omega, fun d i c ss h => by omega, fun d i c ss h => by omega⟩
 | succ f ih =>
  obtain ⟨iT, iP, iS, iE⟩ := ih
  have far_mono : ∀ {r : Res Ty} {i j : Nat}, i <= j -> r.far j -> r.far i := fun {r i j} hij h => by
   cases r with
   | ok x a b => exact Nat.lt_of_le_of_lt hij h
   | err a b => exact h
  refine ⟨fun d i c h => ?_, fun k z d i c ns ss h => ?_, fun d i c ss h => ?_, fun d i c ss h => ?_⟩
  ·unfold pT
   split
   ·exact two
   rename_i hb
   have hlt := begins_lt (by simpa using hb);split
   ·exact three
   split
   ·exact pLocal_far _ _ _ _ _ (by omega)
   split
   ·split
    ·split
     ·exact two
     ·have h1 := iT (d + 1) (i + 2) (c + 1) (by omega)
      cases e : pT S f (d + 1) (i + 2) (c + 1) with
      | err b j => rw [e] at h1; exact h1
      | ok s j c' =>
       rw [e] at h1;have h1' : i + 2 < j := h1
       show Res.far (if _ then _ else _) i
       split
       ·exact two
       ·show i < j + 1; omega
    split
    ·show i < i + 1; omega
    ·show i < i + 1; omega
   split
   ·split
    ·show i < i + 2; omega
    ·exact far_mono (by omega) (iP _ _ _ (i + 1) _ _ _ (by omega))
   split
   ·exact far_mono (by omega) (iP _ _ _ (i + 1) _ _ _ (by omega))
   split
   ·exact pOpen_far _ _ _ _ (by omega)
   split
   ·rename_i hs
    have := sign_lt hs
    exact far_mono (by omega) (iE _ (i + 2) _ _ (by omega))
   ·exact far_mono (by omega) (iS _ (i + 1) _ _ (by omega))
  ·unfold pParts
   split
   ·exact two
   rename_i hb
   have hlt : i < S.n := by
    unfold Toks.nameOk at hb
    by_cases hk : k = 5
    ·rw [if_pos hk] at hb; exact small_lt (by simpa using hb)
    ·rw [if_neg hk] at hb; exact great_lt (by simpa using hb)
   split
   ·exact three
   split
   ·exact five
   split
   ·exact two
   ·have h1 := iT (d + 1) (i + 2) c (by omega)
    cases e : pT S f (d + 1) (i + 2) c with
    | err b j => rw [e] at h1; exact h1
    | ok s j c' =>
     rw [e] at h1;have h1' : i + 2 < j := h1
     show Res.far (if _ then _ else _) i
     split
     ·show i < j + 1; omega
     split
     ·exact two
     ·rename_i hs
      have := sign_lt (by simpa using hs)
      exact far_mono (by omega) (iP _ _ _ (j + 1) _ _ _ (by omega))
  ·unfold pSubs
   split
   ·exact three
   ·have h1 := iT (d + 1) i c (by omega)
    cases e : pT S f (d + 1) i c with
    | err b j => rw [e] at h1; exact h1
    | ok s j c' =>
     rw [e] at h1;have h1' : i < j := h1
     show Res.far (if _ then _ else _) i
     split
     ·rename_i hs
      have := sign_lt hs
      exact far_mono (by omega) (iE _ (j + 1) _ _ (by omega))
     split
     ·exact two
     ·rename_i hs
      have := sign_lt (by simpa using hs)
      exact far_mono (by omega) (iS _ (j + 1) _ _ (by omega))
  ·unfold pEnd
   split
   ·exact two
   rename_i hs
   have hlt := sign_lt (by simpa using hs);split
   ·exact three
   ·have h1 := iT (d + 1) (i + 1) c (by omega)
    cases e : pT S f (d + 1) (i + 1) c with
    | err b j => rw [e] at h1; exact h1
    | ok s j c' =>
     rw [e] at h1;have h1' : i + 1 < j := h1
     show i < j; omega
end Go.Proofs.YtddlmigofilejaaGreatDoor.M
namespace Go.Proofs.YtddlmigofilejaaGreatDoor
open Go.RowKit
open M
open Classical in
noncomputable def strike (S : Nat -> Prop) (w : World) : World := { w with heap := w.heap.mapIdx fun i o => if S i then .cells #[] 0 (0, 0) else o }
theorem strike_size (S : Nat -> Prop) (w : World) : (strike S w).heap.size = w.heap.size := by simp [strike]
theorem strike_cell {S : Nat -> Prop} {w : World} {b o : Nat} {x : Value} : (strike S w).cell? ⟨b, o, none⟩ = some x ↔ ¬ S b /\ w.cell? ⟨b, o, none⟩ = some x := by
  by_cases hb : S b
  · simp only [hb, not_true, false_and, iff_false]
    intro h;have hlt := World.block_lt_of_cell? _ _ h;rw [strike_size] at hlt;rw [cZ (cs := #[]) (T := 0) (fr := (0, 0)) (by simp [strike, hlt, hb])] at h;simp at h
  · simp only [hb, not_false_eq_true, true_and]
    have e : (strike S w).heap[b]? = w.heap[b]? := by
      rcases Nat.lt_or_ge b w.heap.size with h | h
      · simp [strike, h, hb]
      · rw [Array.getElem?_eq_none h, Array.getElem?_eq_none (by rw [strike_size]; exact h)]
    rw [World.cell?_of_block (w := w) (w' := strike S w) (a := ⟨b, o, none⟩) e]
theorem NamesAt.cells {w w' : World} {A : Option Addr} {l : List ByteArray} (hz : w.heap.size <= w'.heap.size) (hc : ∀ b o x, w.cell? ⟨b, o, none⟩ = some x -> w'.cell? ⟨b, o, none⟩ = some x) (h : NamesAt w A l) : NamesAt w' A l := by
  intro i s hs;obtain ⟨g, o, hA, hg, h1, h2⟩ := h i s hs;exact ⟨g, o, hA, Nat.lt_of_lt_of_le hg hz, hc _ _ _ h1, h2⟩
theorem TyAt.cells {w w' : World} (hz : w.heap.size <= w'.heap.size) (hc : ∀ b o x, w.cell? ⟨b, o, none⟩ = some x -> w'.cell? ⟨b, o, none⟩ = some x) {l : List Value} {t : Ty} (h : TyAt w l t) : TyAt w' l t := by
  induction h with
  | mk kind pkg major mod name names subs An cn As cs C hp hm hn hln hls hcs hN hl hS hT ih =>
    refine .mk kind pkg major mod name names subs An cn As cs C hp hm hn hln hls hcs (hN.cells hz hc) hl (fun i t ht => ?_) ih;obtain ⟨g, o, hA, hg, h1⟩ := hS i t ht;exact ⟨g, o, hA, Nat.lt_of_lt_of_le hg hz, fun j v hv => hc _ _ _ (h1 j v hv)⟩
theorem run_append_empty {P : Program} {w : World} (base : Nat) (t ty e : TypeId) (i : TypeInfo) (size : Nat) (ht : P.underlying t = some (.slice e)) (hi : P.info? e = some i)
    (v : Value) (n c : Nat) (xs : List Value) (hown : w.ownsRow base e size v n xs) : (Builtin.append_ #[t, t] ty #[v, .slice none 0 c]).run P w = .ok v w := by
  rcases hown.2 with ⟨rfl, rfl⟩ | ⟨g, cap, cur, rfl, _, _, hnc, _⟩
  · simp [Builtin.append_, run_underlying ht, sizeOf, typeInfo, hi, Builtin.lenOf, Builtin.firstCells]
  · simp [Builtin.append_, run_underlying ht, sizeOf, typeInfo, hi, Builtin.lenOf, Builtin.firstCells, hnc, storeCells]
theorem wpList_append_empty {P : Program} {w : World} {ops : Array Oper} {rest : List Oper} {o : Oper} {a : Act} {Q : Exit -> Act -> World -> Prop} (hgd : o.guard = none) (s x : Operand) (t : TypeId)
    (ho : o.op = .call { callee := .builtin .append, args := #[s, x], argTypes := #[t, t] })
    (base : Nat) (e : TypeId) (i : TypeInfo) (size : Nat) (ht : P.underlying t = some (.slice e)) (hi : P.info? e = some i)
    (v : Value) (n c : Nat) (xs : List Value) (hs : a.eval s = v) (hown : w.ownsRow base e size v n xs) (hx : a.eval x = .slice none 0 c)
    (h : wpList P ops Q rest (a.put o.dst v) w) : wpList P ops Q (o :: rest) a w := by
  refine wpList_plain hgd fun K hK => ?_
  have hrun := run_append_empty (P := P) (w := w) base t o.type e i size ht hi v n c xs hown;unfold Oper.wp
  simp [execOp, ho, resolve, invoke, builtin, hs, hx, hrun, Result.andThen];exact hK _ _ h
theorem str_info : (Tryz.prog.info? 9).map (fun i => (i.zero, i.size, i.bytes)) = some (some (.string ⟨#[]⟩), 1, 16) := by kernel_rfl
theorem typ_info : (Tryz.prog.info? 48).map (fun i => (i.zero, i.size, i.bytes)) = some (some (.agg #[.int .i64 0, .string ⟨#[]⟩, .int .i64 0, .string ⟨#[]⟩, .string ⟨#[]⟩, .slice none 0 0, .slice none 0 0]), 7, 112) := by kernel_rfl
theorem own_names {w : World} {base n : Nat} {v : Value} {l : List ByteArray} (h : w.ownsRow base 9 1 v n (l.map Value.string)) (hs : ∀ (i : Nat) (s : ByteArray), l[i]? = some s -> s.size <= 9223372036854775807) :
    l.length = n /\ ∃ A c, v = .slice A n c /\ ∀ S : Nat -> Prop, (∀ b, base <= b -> ¬ S b) -> NamesAt (strike S w) A l := by
  have hlen : l.length = n := by have := h.1; simpa using this
  refine ⟨hlen, ?_⟩;rcases h.2 with ⟨rfl, h0⟩ | ⟨g, cap, cur, rfl, hB, hg, hnc, hcm, hcs, htake⟩
  · refine ⟨none, 0, by rw [h0], fun S _ i s hi => ?_⟩
    have := (List.getElem?_eq_some_iff.1 hi).1
    omega
  · refine ⟨some ⟨g, 0, none⟩, cap, rfl, fun S hS i s hi => ?_⟩
    refine ⟨g, 0, rfl, by rw [strike_size]; exact (Array.getElem?_eq_some_iff.1 hg).1, ?_, hs i s hi⟩;have hi' := (List.getElem?_eq_some_iff.1 hi).1
    refine strike_cell.2 ⟨hS g hB, ?_⟩;rw [cZ hg, Nat.zero_add, <- Array.getElem?_toList];have e : (cur.toList.take (n * 1))[i]? = some (.string s) := by rw [htake, List.getElem?_map, hi]; rfl
    rw [List.getElem?_take] at e;split at e
    · exact e
    · cases e
structure Cp (w : World) (t : Ty) (A5 : Option Addr) (c5 : Nat) (j : Nat) (A6 : Option Addr) (c6 : Nat) (wr : World) : Prop where
  below : Below w.heap.size w wr
  box : wr.heap[w.heap.size]? = some (.cells #[.int .i64 t.kind, .string t.pkg, .int .i64 t.major, .string t.mod, .string t.name, .slice A5 t.names.length c5, .slice A6 j c6] 48 (0, 0))
  res : wr.heap[w.heap.size + 1]? = some (.cells #[.int .i64 0, .string ⟨#[]⟩, .int .i64 0, .string ⟨#[]⟩, .string ⟨#[]⟩, .slice none 0 0, .slice none 0 0] 48 (0, 0))
  names : NamesAt (strike (fun b => b < w.heap.size + 2 \/ (Value.slice A6 j c6).ownBlock = some b) wr) A5 t.names
  subs : ∃ C : Nat -> List Value, (∀ i, (C i).length = 7) /\ wr.ownsRow (w.heap.size + 2) 48 7 (.slice A6 j c6) j ((List.range j).map C).flatten /\
    ∀ i s, i < j -> t.subs[i]? = some s -> TyAt (strike (fun b => b < w.heap.size + 2 \/ (Value.slice A6 j c6).ownBlock = some b) wr) (C i) s
end Go.Proofs.YtddlmigofilejaaGreatDoor
