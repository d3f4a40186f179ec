/-
  Several texts in one.
-/
import Derived.Test.YtddlmigofilejaaGreatA0
import Derived.Lib.IndexBytes
import GoSem.Op.String
import Derived.Sort.Walk0
import Derived.WalkKit
import Derived.Below
import Derived.Deep.Draws
import Derived.Lib.Hide
import Derived.ProofKit
import Derived.OpenShut
import Derived.Lib.SmallJoins
import Derived.Deep.Slices
import Derived.Deep.Strs
import Derived.DataReads
import Derived.WideShapes
import Derived.SliceStrings
import Derived.WalkSpells
import Derived.WalkLawsBesides
import Derived.RegionTactic
import Derived.IntWalk
import Derived.LoopTactic
import Derived.OwnWalk
import Derived.Lib.Builder
import Derived.OneCell
import Derived.Deep.AppendLies
import Derived.Laws.OwnMore
import Derived.Lib.Strings
import Derived.Test.YtddlmigofilejaaGreatChecked
set_option maxHeartbeats 1000000
namespace Go.Proofs.YtddlmigofilejaaGreat.M
def keys : List (List UInt8) := [[97, 115], [97, 108, 105, 97, 115], [100, 101, 112], [104, 105, 100, 100, 101, 110], [105, 109, 112, 111, 114, 116], [105, 115], [109, 111, 100, 117, 108, 101], [111, 112, 97, 113, 117, 101], [112, 97, 99, 107, 97, 103, 101], [117, 115, 101], [118, 97, 108], [118, 101, 114, 115, 105, 111, 110]]
def words : List (List UInt8) := [[73, 110, 116], [84, 101, 120, 116], [66, 111, 111, 108], [76, 105, 115, 116]]
def keyB (l : List UInt8) : Bool := keys.contains l
def wordB (l : List UInt8) : Bool := words.contains l
def lowC (n : Int) : Bool := decide (97 <= n) && decide (n <= 122)
def upC (n : Int) : Bool := decide (65 <= n) && decide (n <= 90)
def digC (n : Int) : Bool := decide (48 <= n) && decide (n <= 57)
def lowDigC (n : Int) : Bool := lowC n || digC n
def anyC (n : Int) : Bool := lowC n || upC n || digC n
def bt (l : List UInt8) (j : Nat) : Int := ((l.getD j 0).toNat : Int)
def spell (f g : Int -> Bool) (l : List UInt8) : Bool := decide (0 < l.length) && decide (l.length <= 20) && f (bt l 0) && l.tail.all (fun c => g (c.toNat : Int))
def smallB (l : List UInt8) : Bool := spell lowC lowDigC l && !keyB l
def greatB (l : List UInt8) : Bool := spell upC anyC l && !wordB l
def letters (g : Int -> Bool) (l : List UInt8) : Bool := decide (0 < l.length) && decide (l.length <= 20) && l.all (fun c => g (c.toNat : Int))
theorem bt_eq (s : ByteArray) (k : Nat) (h : k < s.size) : (s[k].toNat : Int) = bt s.data.toList k := by
  unfold bt
  rw [List.getD_eq_getElem?_getD, List.getElem?_eq_getElem (by simpa using h)];rfl
theorem all_iff (g : Int -> Bool) (l : List UInt8) : l.all (fun c => g (c.toNat : Int)) = true ↔ ∀ j, j < l.length -> g (bt l j) = true := by
  rw [List.all_eq_true];constructor
  · intro h j hj
    have := h l[j] (List.getElem_mem hj)
    unfold bt
    rw [List.getD_eq_getElem?_getD, List.getElem?_eq_getElem hj];exact this
  · intro h c hc
    obtain ⟨j, hj, rfl⟩ := List.getElem_of_mem hc;have := h j hj
    unfold bt at this
    rw [List.getD_eq_getElem?_getD, List.getElem?_eq_getElem hj] at this;exact this
theorem bt_tail (l : List UInt8) (j : Nat) : bt l.tail j = bt l (j + 1) := by
  unfold bt
  cases l <;> simp
theorem spell_iff (f g : Int -> Bool) (l : List UInt8) : spell f g l = true ↔ 0 < l.length /\ l.length <= 20 /\ f (bt l 0) = true /\ ∀ j, 1 <= j -> j < l.length -> g (bt l j) = true := by
  unfold spell
  simp only [Bool.and_eq_true, decide_eq_true_eq, all_iff];constructor
  · rintro ⟨⟨⟨h0, h1⟩, h2⟩, h3⟩
    refine ⟨h0, h1, h2, fun j hj hl => ?_⟩;have := h3 (j - 1) (by simp; omega)
    rwa [bt_tail, show j - 1 + 1 = j by omega] at this
  · rintro ⟨h0, h1, h2, h3⟩
    refine ⟨⟨⟨h0, h1⟩, h2⟩, fun j hj => ?_⟩;rw [bt_tail];exact h3 (j + 1) (by omega) (by simp at hj; omega)
theorem letters_iff (g : Int -> Bool) (l : List UInt8) : letters g l = true ↔ 0 < l.length /\ l.length <= 20 /\ ∀ j, j < l.length -> g (bt l j) = true := by
  unfold letters
  simp only [Bool.and_eq_true, decide_eq_true_eq, all_iff, and_assoc]
theorem len_size (s : ByteArray) : s.data.toList.length = s.size := by simp
theorem spell_empty (f g : Int -> Bool) (s : ByteArray) (h : s.size = 0) : spell f g s.data.toList = false := by
  rw [Bool.eq_false_iff, ne_eq, spell_iff, len_size]; omega
theorem spell_long (f g : Int -> Bool) (s : ByteArray) (h : 20 < s.size) : spell f g s.data.toList = false := by
  rw [Bool.eq_false_iff, ne_eq, spell_iff, len_size]; omega
theorem spell_first (f g : Int -> Bool) (s : ByteArray) (h : f (bt s.data.toList 0) = false) : spell f g s.data.toList = false := by
  rw [Bool.eq_false_iff, ne_eq, spell_iff]; rintro ⟨-, -, a, -⟩; rw [h] at a; cases a
theorem spell_later (f g : Int -> Bool) (s : ByteArray) (k : Nat) (h1 : 1 <= k) (h2 : k < s.size) (h : g (bt s.data.toList k) = false) : spell f g s.data.toList = false := by
  rw [Bool.eq_false_iff, ne_eq, spell_iff, len_size]; rintro ⟨-, -, -, a⟩; rw [a k h1 h2] at h; cases h
theorem spell_all (f g : Int -> Bool) (s : ByteArray) (h0 : 0 < s.size) (h1 : s.size <= 20) (h2 : f (bt s.data.toList 0) = true) (h : ∀ j, 1 <= j -> j < s.size -> g (bt s.data.toList j) = true) : spell f g s.data.toList = true := by
  rw [spell_iff, len_size]; exact ⟨h0, h1, h2, h⟩
theorem letters_empty (g : Int -> Bool) (s : ByteArray) (h : s.size = 0) : letters g s.data.toList = false := by
  rw [Bool.eq_false_iff, ne_eq, letters_iff, len_size]; omega
theorem letters_long (g : Int -> Bool) (s : ByteArray) (h : 20 < s.size) : letters g s.data.toList = false := by
  rw [Bool.eq_false_iff, ne_eq, letters_iff, len_size]; omega
theorem letters_later (g : Int -> Bool) (s : ByteArray) (k : Nat) (h2 : k < s.size) (h : g (bt s.data.toList k) = false) : letters g s.data.toList = false := by
  rw [Bool.eq_false_iff, ne_eq, letters_iff, len_size]; rintro ⟨-, -, a⟩; rw [a k h2] at h; cases h
theorem letters_all (g : Int -> Bool) (s : ByteArray) (h0 : 0 < s.size) (h1 : s.size <= 20) (h : ∀ j, j < s.size -> g (bt s.data.toList j) = true) : letters g s.data.toList = true := by
  rw [letters_iff, len_size]; exact ⟨h0, h1, h⟩
theorem lowDig_low {n : Int} (h : lowDigC n = true) : lowC n = decide (97 <= n) := by
  unfold lowDigC lowC digC at *
  rw [Bool.eq_iff_iff];simp only [Bool.or_eq_true, Bool.and_eq_true, decide_eq_true_eq] at *;omega
theorem small_ref (l : List UInt8) (h : letters lowDigC l = true) : smallB l = (!keyB l && decide (97 <= bt l 0)) := by
  have hs : spell lowC lowDigC l = decide (97 <= bt l 0) := by
    obtain ⟨h0, h1, h2⟩ := (letters_iff _ _).1 h;rw [<- lowDig_low (h2 0 h0)];cases hf : lowC (bt l 0)
    · rw [Bool.eq_false_iff, ne_eq, spell_iff]; rintro ⟨-, -, a, -⟩; rw [hf] at a; cases a
    · rw [spell_iff]; exact ⟨h0, h1, hf, fun j _ hj => h2 j hj⟩
  unfold smallB
  rw [hs, Bool.and_comm]
theorem small_none (l : List UInt8) (h : letters lowDigC l = false) : smallB l = false := by
  have hs : spell lowC lowDigC l = false := by
    rw [Bool.eq_false_iff, ne_eq, spell_iff];rintro ⟨h0, h1, h2, h3⟩;rw [Bool.eq_false_iff, ne_eq, letters_iff] at h;refine h ⟨h0, h1, fun j hj => ?_⟩;rcases j with _ | j
    · unfold lowDigC; rw [h2]; rfl
    · exact h3 (j + 1) (by omega) hj
  unfold smallB
  rw [hs]; rfl
theorem great_ref (l : List UInt8) (h : letters anyC l = true) : spell upC anyC l = (decide (65 <= bt l 0) && decide (bt l 0 <= 90)) := by
  obtain ⟨h0, h1, h2⟩ := (letters_iff _ _).1 h;show _ = upC (bt l 0)
  cases hf : upC (bt l 0)
  · rw [Bool.eq_false_iff, ne_eq, spell_iff]; rintro ⟨-, -, a, -⟩; rw [hf] at a; cases a
  · rw [spell_iff]; exact ⟨h0, h1, hf, fun j _ hj => h2 j hj⟩
theorem great_none (l : List UInt8) (h : letters anyC l = false) : greatB l = false := by
  have hs : spell upC anyC l = false := by
    rw [Bool.eq_false_iff, ne_eq, spell_iff];rintro ⟨h0, h1, h2, h3⟩;rw [Bool.eq_false_iff, ne_eq, letters_iff] at h;refine h ⟨h0, h1, fun j hj => ?_⟩;rcases j with _ | j
    · unfold anyC; rw [h2]; simp
    · exact h3 (j + 1) (by omega) hj
  unfold greatB
  rw [hs]; rfl
end Go.Proofs.YtddlmigofilejaaGreat.M
namespace Go.Proofs.YtddlmigofilejaaGreat.M
inductive Ty where
  | mk (kind : Int) (pkg : ByteArray) (major : Int) (mod name : ByteArray) (names : List ByteArray) (subs : List Ty)
namespace Ty
def kind : Ty -> Int | mk k _ _ _ _ _ _ => k
def pkg : Ty -> ByteArray | mk _ p _ _ _ _ _ => p
def major : Ty -> Int | mk _ _ m _ _ _ _ => m
def mod : Ty -> ByteArray | mk _ _ _ m _ _ _ => m
def name : Ty -> ByteArray | mk _ _ _ _ n _ _ => n
def names : Ty -> List ByteArray | mk _ _ _ _ _ n _ => n
def subs : Ty -> List Ty | mk _ _ _ _ _ _ s => s
end Ty
mutual
def many : Ty -> Nat
  | .mk _ _ _ _ _ _ subs => 1 + manyL subs
def manyL : List Ty -> Nat
  | [] => 0
  | t :: r => many t + manyL r
end
mutual
def deep : Ty -> Nat
  | .mk _ _ _ _ _ _ subs => deepL subs + 1
def deepL : List Ty -> Nat
  | [] => 0
  | t :: r => max (deep t) (deepL r)
end
mutual
def plainT : Ty -> Bool
  | .mk k _ _ _ _ _ subs => !(k == 8) && plainL subs
def plainL : List Ty -> Bool
  | [] => true
  | t :: r => plainT t && plainL r
end
mutual
def fewT : Ty -> Int -> Int
  | .mk _ _ _ _ _ names subs, most => if most - 1 < 0 \/ 200 < names.length then -1 else fewL subs (most - 1)
def fewL : List Ty -> Int -> Int
  | [], most => most
  | t :: r, most => if 0 <= most then fewL r (fewT t most) else most
end
theorem many_pos (t : Ty) : 1 <= many t := by cases t; simp [many]
mutual
theorem few_bd : ∀ (t : Ty) (most : Int), -1 <= most -> -1 <= fewT t most /\ fewT t most <= max most (-1)
  | .mk k p m d n names subs, most, h => by
    unfold fewT
    split
    · omega
    · rename_i hc
      have := fewL_bd subs (most - 1) (by omega)
      omega
theorem fewL_bd : ∀ (l : List Ty) (most : Int), -1 <= most -> -1 <= fewL l most /\ fewL l most <= most
  | [], most, h => by unfold fewL; omega
  | t :: r, most, h => by
    unfold fewL
    split
    · have a := few_bd t most h
      have b := fewL_bd r (fewT t most) a.1;omega
    · omega
end
theorem fewL_neg (l : List Ty) (most : Int) (h : most < 0) : fewL l most = most := by
  cases l with
  | nil => rfl
  | cons t r => unfold fewL; rw [if_neg (by omega)]
mutual
theorem few_many : ∀ (t : Ty) (most : Int), 0 <= fewT t most -> fewT t most = most - many t
  | .mk k p m d n names subs, most, h => by
    unfold fewT at h ⊢
    split at h
    · omega
    · rename_i hc
      rw [if_neg hc];have := fewL_many subs (most - 1) h
      rw [this]; unfold many; omega
theorem fewL_many : ∀ (l : List Ty) (most : Int), 0 <= fewL l most -> fewL l most = most - manyL l
  | [], most, _ => by unfold fewL manyL; omega
  | t :: r, most, h => by
    unfold fewL at h ⊢
    split at h
    · rename_i hc
      rw [if_pos hc]
      have a : 0 <= fewT t most := by
        rcases Int.lt_or_le (fewT t most) 0 with b | b
        · rw [fewL_neg _ _ b] at h; omega
        · exact b
      have b := few_many t most a;have c := fewL_many r (fewT t most) h;rw [c, b, show manyL (t :: r) = many t + manyL r from rfl]; omega
    · omega
end
theorem manyL_mem : ∀ (l : List Ty) (t : Ty), t ∈ l -> many t <= manyL l
  | a :: r, t, h => by
    unfold manyL
    rcases List.mem_cons.1 h with rfl | h
    · omega
    · have := manyL_mem r t h; omega
theorem manyL_len : ∀ l : List Ty, l.length <= manyL l
  | [] => by simp
  | t :: r => by
    have := many_pos t
    have := manyL_len r
    unfold manyL; simp only [List.length_cons]; omega
theorem manyL_append : ∀ (a b : List Ty), manyL (a ++ b) = manyL a + manyL b
  | [], b => by simp [manyL]
  | t :: r, b => by
    have := manyL_append r b
    simp only [List.cons_append, manyL, this]; omega
theorem manyL_take (l : List Ty) (k : Nat) (t : Ty) (h : l[k]? = some t) : manyL (l.take (k + 1)) = manyL (l.take k) + many t := by
  rw [List.take_add_one, h, manyL_append];simp [manyL]
theorem manyL_take_le (l : List Ty) (k : Nat) : manyL (l.take k) <= manyL l := by
  conv => rhs; rw [<- List.take_append_drop k l, manyL_append]
  omega
end Go.Proofs.YtddlmigofilejaaGreat.M
namespace Go.Proofs.YtddlmigofilejaaGreat.M
open Go
def leS (a b : ByteArray) : Bool := Op.bytesLess a.toList b.toList || a.toList == b.toList
def nameAt (l : List ByteArray) (i : Nat) : ByteArray := l.getD i ⟨#[]⟩
def badName (kind : Int) (names : List ByteArray) (i : Nat) : Bool :=
  (kind == 5 && !smallB (nameAt names i).data.toList) || (kind == 6 && !greatB (nameAt names i).data.toList) || (decide (0 < i) && leS (nameAt names i) (nameAt names (i - 1)))
def namesOk (kind : Int) (names : List ByteArray) : Bool := (List.range names.length).all fun i => !badName kind names i
def emptyB (s : ByteArray) : Bool := decide (s.size = 0)
def noMore (t : Ty) : Bool := emptyB t.pkg && (t.major == 0) && emptyB t.mod && emptyB t.name
def shapeOk (t : Ty) : Bool :=
  if t.kind = 1 \/ t.kind = 2 \/ t.kind = 3 then noMore t && decide (t.subs.length = 0) && decide (t.names.length = 0)
  else if t.kind = 4 then noMore t && decide (t.subs.length = 1) && decide (t.names.length = 0)
  else if t.kind = 5 then noMore t && decide (t.subs.length = t.names.length)
  else if t.kind = 6 then noMore t && decide (t.subs.length = t.names.length) && decide (0 < t.subs.length)
  else if t.kind = 7 then noMore t && decide (0 < t.subs.length) && decide (t.names.length = 0)
  else if t.kind = 8 then decide (t.subs.length = 0) && decide (t.names.length = 0) && emptyB t.pkg && (t.major == 0) && greatB t.name.data.toList && (smallB t.mod.data.toList || emptyB t.mod)
  else if t.kind = 9 then decide (t.subs.length = 0) && decide (t.names.length = 0) && smallB t.pkg.data.toList && smallB t.mod.data.toList && greatB t.name.data.toList && decide (1 <= t.major) && decide (t.major <= 999999999)
  else false
def ownOk (t : Ty) : Bool := decide (t.subs.length <= 20) && namesOk t.kind t.names && shapeOk t
mutual
def allOk : Ty -> Bool
  | .mk k p m d n names subs => ownOk (.mk k p m d n names subs) && allOkL subs
def allOkL : List Ty -> Bool
  | [] => true
  | t :: r => allOk t && allOkL r
end
def mayT (t : Ty) : Bool := allOk t && decide (many t <= 500) && decide (deep t <= 32)
theorem allOk_eq (t : Ty) : allOk t = (ownOk t && allOkL t.subs) := by cases t; rfl
theorem allOkL_mem : ∀ (l : List Ty), allOkL l = true ↔ ∀ t ∈ l, allOk t = true
  | [] => by simp [allOkL]
  | t :: r => by simp [allOkL, allOkL_mem r]
theorem namesOk_iff (kind : Int) (names : List ByteArray) : namesOk kind names = true ↔ ∀ i, i < names.length -> badName kind names i = false := by
  unfold namesOk
  simp [List.all_eq_true]
theorem own_long {t : Ty} (h : 20 < t.subs.length) : ownOk t = false := by
  unfold ownOk
  rw [show decide (t.subs.length <= 20) = false by simp; omega]; rfl
theorem own_bad {t : Ty} {i : Nat} (hi : i < t.names.length) (h : badName t.kind t.names i = true) : ownOk t = false := by
  have : namesOk t.kind t.names = false := by
    rw [Bool.eq_false_iff, ne_eq, namesOk_iff];intro a;have := a i hi
    rw [h] at this; cases this
  unfold ownOk
  rw [this]; simp
theorem own_good {t : Ty} (h : t.subs.length <= 20) (hn : ∀ i, i < t.names.length -> badName t.kind t.names i = false) : ownOk t = shapeOk t := by
  unfold ownOk
  rw [(namesOk_iff _ _).2 hn, show decide (t.subs.length <= 20) = true by simpa using h]; simp
end Go.Proofs.YtddlmigofilejaaGreat.M
namespace Go.Proofs.YtddlmigofilejaaGreat.M
mutual
def sameT : Ty -> Ty -> Bool
  | .mk k p m d n ns ss, .mk k' p' m' d' n' ns' ss' => decide (k = k') && decide (p = p') && decide (m = m') && decide (d = d') && decide (n = n') && decide (ns = ns') && sameL ss ss'
def sameL : List Ty -> List Ty -> Bool
  | [], [] => true
  | [], _ :: _ => false
  | _ :: _, [] => false
  | a :: r, b :: q => sameT a b && sameL r q
end
mutual
theorem sameT_iff : ∀ a b : Ty, sameT a b = true ↔ a = b
  | .mk k p m d n ns ss, .mk k' p' m' d' n' ns' ss' => by
    have := sameL_iff ss ss'
    unfold sameT
    simp only [Bool.and_eq_true, decide_eq_true_eq, this, Ty.mk.injEq];simp only [and_assoc]
theorem sameL_iff : ∀ a b : List Ty, sameL a b = true ↔ a = b
  | [], [] => by simp [sameL]
  | [], _ :: _ => by simp [sameL]
  | _ :: _, [] => by simp [sameL]
  | a :: r, b :: q => by
    have h1 := sameT_iff a b;have h2 := sameL_iff r q;unfold sameL
    simp only [Bool.and_eq_true, h1, h2, List.cons.injEq]
end
theorem sameT_no {a b : Ty} (h : a ≠ b) : sameT a b = false := by
  rw [Bool.eq_false_iff, ne_eq, sameT_iff]; exact h
theorem ty_ext {a b : Ty} (h1 : a.kind = b.kind) (h2 : a.pkg = b.pkg) (h3 : a.major = b.major) (h4 : a.mod = b.mod) (h5 : a.name = b.name) (h6 : a.names = b.names) (h7 : a.subs = b.subs) : a = b := by
  cases a; cases b
  simp only [Ty.kind, Ty.pkg, Ty.major, Ty.mod, Ty.name, Ty.names, Ty.subs] at *;subst h1 h2 h3 h4 h5 h6 h7;rfl
theorem bytes_list {a b : ByteArray} : a.data.toList = b.data.toList ↔ a = b := by
  constructor
  · intro h
    cases a; cases b; simp at h; simpa using h
  · rintro rfl; rfl
theorem list_ext' {α : Type} {a b : List α} (hl : a.length = b.length) (h : ∀ (i : Nat) (x y : α), a[i]? = some x -> b[i]? = some y -> x = y) : a = b := by
  apply List.ext_getElem? 
  intro i;rcases Nat.lt_or_ge i a.length with hi | hi
  · rw [List.getElem?_eq_getElem hi, List.getElem?_eq_getElem (by omega)]
    exact congrArg some (h i _ _ (List.getElem?_eq_getElem hi) (List.getElem?_eq_getElem (by omega)))
  · rw [List.getElem?_eq_none hi, List.getElem?_eq_none (by omega)]
end Go.Proofs.YtddlmigofilejaaGreat.M
namespace Go.Proofs.YtddlmigofilejaaGreat
open Go
open Go.Sort
open M
def AtN (t : Ty) (s : ByteArray) (x : Ty) : Prop := ∃ i : Nat, t.names[i]? = some s /\ t.subs[i]? = some x
theorem sub_lt {x t : Ty} (h : x ∈ t.subs) : many x < many t := by
 have h1 := manyL_mem _ _ h
 have e : many t = 1 + manyL t.subs := by cases t; rfl
 omega
theorem sub_lt_at {x t : Ty} {i : Nat} (h : t.subs[i]? = some x) : many x < many t := sub_lt (List.mem_of_getElem? h)
theorem AtN.lt {t x : Ty} {s : ByteArray} (h : AtN t s x) : many x < many t := by
 obtain ⟨i, -, h⟩ := h
 exact sub_lt_at h
theorem AtN.sub {t x : Ty} {s : ByteArray} (h : AtN t s x) : x ∈ t.subs := by
 obtain ⟨i, -, h⟩ := h
 exact List.mem_of_getElem? h
theorem AtN.name {t x : Ty} {s : ByteArray} (h : AtN t s x) : s ∈ t.names := by
 obtain ⟨i, h, -⟩ := h
 exact List.mem_of_getElem? h
abbrev LtS (a b : ByteArray) : Prop := a.data.toList < b.data.toList
theorem lts_irrefl (a : ByteArray) : ¬ LtS a a := List.lt_irrefl _
theorem lts_trans {a b c : ByteArray} (h1 : LtS a b) (h2 : LtS b c) : LtS a c := List.lt_trans h1 h2
theorem bytes_eq {a b : ByteArray} (h : a.data.toList = b.data.toList) : a = b := by
 cases a with | mk a => cases b with | mk b =>
 cases a; cases b
 simp at h
 rw [h]
theorem lts_tri (a b : ByteArray) : LtS a b \/ a = b \/ LtS b a := by
 by_cases h1 : LtS a b
 ·exact .inl h1
 ·by_cases h2 : LtS b a
  ·exact .inr (.inr h2)
  ·exact .inr (.inl (bytes_eq (List.le_antisymm (α := UInt8) h2 h1)))
theorem bless_lts (a b : ByteArray) : Op.bytesLess a.toList b.toList = decide (LtS a b) := by rw [bytesLess_eq, Lib.toList_data, Lib.toList_data]
theorem leS_lts (a b : ByteArray) : leS a b = !decide (LtS b a) := by
 unfold leS
 rw [bless_lts]
 rcases lts_tri a b with h | h | h
 ·rw [decide_eq_true h, decide_eq_false (fun h' => lts_irrefl _ (lts_trans h h'))]; rfl
 ·subst h
  rw [decide_eq_false (lts_irrefl a)]; simp
 ·rw [decide_eq_true h, decide_eq_false (fun h' => lts_irrefl _ (lts_trans h h'))]
  have hne : a ≠ b := fun e => by subst e; exact lts_irrefl _ h
  have : a.toList ≠ b.toList := fun e => hne (bytes_eq (by rw [Lib.toList_data, Lib.toList_data] at e; exact e))
  simp [this]
abbrev Rising (l : List ByteArray) : Prop := l.Pairwise LtS
theorem rising_at {l : List ByteArray} (h : ∀ i, i + 1 < l.length -> LtS (nameAt l i) (nameAt l (i + 1))) : Rising l := by
 have key : ∀ (k i : Nat), i + k + 1 < l.length -> LtS (nameAt l i) (nameAt l (i + k + 1)) := by
  intro k;induction k with
  | zero => intro i hi; exact h i hi
  | succ k ih => intro i hi; exact lts_trans (ih i (by omega)) (h (i + k + 1) (by omega))
 refine List.pairwise_iff_getElem.2 fun i j hi hj hij => ?_
 have := key (j - i - 1) i (by omega)
 rw [show i + (j - i - 1) + 1 = j by omega] at this
 unfold nameAt at this
 simp [List.getD_eq_getElem?_getD, hi, hj] at this
 exact this
theorem rising_nodup {l : List ByteArray} (h : Rising l) : l.Nodup := h.imp fun h e => by subst e; exact lts_irrefl _ h
theorem rising_one : ∀ (l l' : List ByteArray), Rising l -> Rising l' -> (∀ s, s ∈ l ↔ s ∈ l') -> l = l'
 | [], [], _, _, _ => rfl
 | [], b :: r, _, _, h => absurd ((h b).2 List.mem_cons_self) (by simp)
 | a :: r, [], _, _, h => absurd ((h a).1 List.mem_cons_self) (by simp)
 | a :: r, b :: q, h1, h2, h => by
  have h1 := List.pairwise_cons.1 h1;have h2 := List.pairwise_cons.1 h2
  have hab : a = b := by
   rcases List.mem_cons.1 ((h a).1 List.mem_cons_self) with e | e
   ·exact e
   ·rcases List.mem_cons.1 ((h b).2 List.mem_cons_self) with e' | e'
    ·exact e'.symm
    ·exact absurd (lts_trans (h1.1 b e') (h2.1 a e)) (lts_irrefl _)
  subst hab;rw [rising_one r q h1.2 h2.2 fun s => ⟨fun hs => ?_, fun hs => ?_⟩]
  ·rcases List.mem_cons.1 ((h s).1 (List.mem_cons_of_mem _ hs)) with e | e
   ·subst e; exact absurd (h1.1 s hs) (lts_irrefl _)
   ·exact e
  ·rcases List.mem_cons.1 ((h s).2 (List.mem_cons_of_mem _ hs)) with e | e
   ·subst e; exact absurd (h2.1 s hs) (lts_irrefl _)
   ·exact e
theorem nodup_at {l : List ByteArray} (h : l.Nodup) {i j : Nat} {s : ByteArray} (hi : l[i]? = some s) (hj : l[j]? = some s) : i = j := by
 obtain ⟨hi', e⟩ := List.getElem?_eq_some_iff.1 hi
 obtain ⟨hj', e'⟩ := List.getElem?_eq_some_iff.1 hj
 rcases Nat.lt_trichotomy i j with c | c | c
 ·exact absurd (e.trans e'.symm) (List.pairwise_iff_getElem.1 h i j hi' hj' c)
 ·exact c
 ·exact absurd (e'.trans e.symm) (List.pairwise_iff_getElem.1 h j i hj' hi' c)
def ownG (t : Ty) : Bool := namesOk t.kind t.names && shapeOk t && !(t.kind == 8)
inductive GoodT : Ty -> Prop
 | mk (t : Ty) (h : ownG t = true) (hs : ∀ s, s ∈ t.subs -> GoodT s) : GoodT t
theorem GoodT.own {t : Ty} (h : GoodT t) : ownG t = true := by cases h; assumption
theorem GoodT.sub {t s : Ty} (h : GoodT t) (hs : s ∈ t.subs) : GoodT s := by cases h with | mk t h hs' => exact hs' s hs
theorem plain_own {t : Ty} (h : plainT t = true) : t.kind ≠ 8 /\ ∀ s ∈ t.subs, plainT s = true := by
 cases t with
 | mk k p j d n ns ss =>
  unfold plainT at h
  simp only [Bool.and_eq_true, Bool.not_eq_true', beq_eq_false_iff_ne] at h;refine ⟨h.1, ?_⟩
  have key : ∀ l : List Ty, plainL l = true -> ∀ s ∈ l, plainT s = true := by
   intro l;induction l with
   | nil => intro _ s hs; cases hs
   | cons a r ih =>
    intro h s hs;unfold plainL at h
    rw [Bool.and_eq_true] at h;rcases List.mem_cons.1 hs with rfl | hs
    ·exact h.1
    ·exact ih h.2 s hs
  exact key ss h.2
theorem good_of_ok : ∀ (N : Nat) (t : Ty), many t <= N -> allOk t = true -> plainT t = true -> GoodT t := by
 intro N
 induction N with
 | zero => intro t h; have := many_pos t; omega
 | succ N ih =>
  intro t hN ha hp;rw [allOk_eq, Bool.and_eq_true] at ha;obtain ⟨h8, hs⟩ := plain_own hp;refine .mk t ?_ fun s hm => ih s (by have := sub_lt hm; omega) ((allOkL_mem _).1 ha.2 s hm) (hs s hm)
  have h1 := ha.1;unfold ownOk at h1
  simp only [Bool.and_eq_true] at h1;unfold ownG
  rw [h1.1.2, h1.2];simpa using h8
theorem good_of_may {t : Ty} (h : mayT t = true) (hp : plainT t = true) : GoodT t := by
 unfold mayT at h
 simp only [Bool.and_eq_true] at h
 exact good_of_ok _ t (Nat.le_refl _) h.1.1 hp
theorem empty_is {s : ByteArray} (h : emptyB s = true) : s = ⟨#[]⟩ := by
 unfold emptyB at h
 have h := of_decide_eq_true h
 cases s with | mk d => cases d with | mk l =>
 simp only [ByteArray.size, List.size_toArray, List.length_eq_zero_iff] at h
 rw [h]
structure Bare (t : Ty) : Prop where
 pkg : t.pkg = ⟨#[]⟩
 major : t.major = 0
 mod : t.mod = ⟨#[]⟩
 name : t.name = ⟨#[]⟩
theorem bare_of {t : Ty} (h : noMore t = true) : Bare t := by
 unfold noMore at h
 simp only [Bool.and_eq_true, beq_iff_eq] at h
 exact ⟨empty_is h.1.1.1, h.1.1.2, empty_is h.1.2, empty_is h.2⟩
def nameB (k : Int) (s : ByteArray) : Bool := (!(k == 5) || smallB s.data.toList) && (!(k == 6) || greatB s.data.toList)
theorem names_rise {k : Int} {l : List ByteArray} (h : namesOk k l = true) : Rising l /\ ∀ s ∈ l, nameB k s = true := by
 rw [namesOk_iff] at h
 refine ⟨rising_at fun i hi => ?_, fun s hs => ?_⟩
 ·have := h (i + 1) hi
  unfold badName at this
  simp only [Bool.or_eq_false_iff, Bool.and_eq_false_iff] at this;rcases this.2 with c | c
  ·simp at c
  ·rw [leS_lts] at c
   simp at c;exact c
 ·obtain ⟨i, hi⟩ := List.getElem?_of_mem hs
  obtain ⟨hi', e⟩ := List.getElem?_eq_some_iff.1 hi;have := h i hi'
  unfold badName at this
  have en : nameAt l i = s := by unfold nameAt; simp [List.getD_eq_getElem?_getD, hi]
  rw [en] at this;simp only [Bool.or_eq_false_iff, Bool.and_eq_false_iff, Bool.not_eq_false'] at this;unfold nameB
  rcases this.1.1 with c | c <;> rcases this.1.2 with d | d <;> simp [c, d]
theorem GoodT.rise {t : Ty} (h : GoodT t) : Rising t.names := by
 have := h.own
 unfold ownG at this
 simp only [Bool.and_eq_true] at this
 exact (names_rise this.1.1).1
theorem GoodT.nodup {t : Ty} (h : GoodT t) : t.names.Nodup := rising_nodup h.rise
theorem GoodT.shape {t : Ty} (h : GoodT t) : shapeOk t = true := by
 have := h.own
 unfold ownG at this
 simp only [Bool.and_eq_true] at this
 exact this.1.2
theorem GoodT.row {t : Ty} (h : GoodT t) (hk : t.kind = 5 \/ t.kind = 6) : Bare t /\ t.subs.length = t.names.length /\ (t.kind = 6 -> 0 < t.subs.length) := by
 have hs := h.shape
 unfold shapeOk at hs
 rcases hk with hk | hk <;> rw [hk] at hs <;> simp at hs
 ·exact ⟨bare_of hs.1, hs.2, fun h => by rw [hk] at h; cases h⟩
 ·exact ⟨bare_of hs.1.1, hs.1.2, fun _ => hs.2⟩
theorem GoodT.parts {t : Ty} (h : GoodT t) (hk : t.kind = 4 \/ t.kind = 7) : Bare t /\ t.names = [] /\ 0 < t.subs.length /\ (t.kind = 4 -> t.subs.length = 1) := by
 have hs := h.shape
 unfold shapeOk at hs
 rcases hk with hk | hk <;> rw [hk] at hs <;> simp at hs
 ·exact ⟨bare_of hs.1.1, hs.2, by omega, fun _ => hs.1.2⟩
 ·exact ⟨bare_of hs.1.1, hs.2, hs.1.2, fun h => by rw [hk] at h; cases h⟩
theorem GoodT.leaf {t : Ty} (h : GoodT t) (h4 : t.kind ≠ 4) (h5 : t.kind ≠ 5) (h6 : t.kind ≠ 6) (h7 : t.kind ≠ 7) : t.subs = [] /\ t.names = [] := by
 have hs := h.shape
 unfold shapeOk at hs
 split at hs
 ·simp at hs; exact ⟨hs.1.2, hs.2⟩
 ·split at hs
  ·simp at hs; exact ⟨hs.1.1.1.1.1, hs.1.1.1.1.2⟩
  ·split at hs
   ·simp at hs; exact ⟨hs.1.1.1.1.1.1, hs.1.1.1.1.1.2⟩
   ·cases hs
theorem GoodT.one {t x y : Ty} {s : ByteArray} (h : GoodT t) (hx : AtN t s x) (hy : AtN t s y) : x = y := by
 obtain ⟨i, h1, h2⟩ := hx
 obtain ⟨j, h3, h4⟩ := hy
 obtain rfl := nodup_at h.nodup h1 h3
 rw [h2] at h4
 exact Option.some.inj h4
def SubR (a b : Ty) : Prop :=
 a.kind = b.kind /\
 (a.kind = 5 -> ∀ s y, AtN b s y -> ∃ x, ∃ _ : AtN a s x, ∃ _ : AtN b s y, SubR x y) /\
 (a.kind = 6 -> ∀ s x, AtN a s x -> ∃ y, ∃ _ : AtN a s x, ∃ _ : AtN b s y, SubR x y) /\
 ((a.kind = 4 \/ a.kind = 7) -> a.subs.length = b.subs.length /\ ∀ i x y, (hx : a.subs[i]? = some x) -> (hy : b.subs[i]? = some y) -> (i + 1 = a.subs.length -> SubR x y) /\ (i + 1 ≠ a.subs.length -> SubR y x)) /\
 ((a.kind ≠ 4 /\ a.kind ≠ 5 /\ a.kind ≠ 6 /\ a.kind ≠ 7) -> a = b)
termination_by many a + many b
decreasing_by
 ·rename_i h1 h2
  have := h1.lt; have := h2.lt; omega
 ·rename_i h1 h2
  have := h1.lt; have := h2.lt; omega
 ·have := sub_lt_at hx; have := sub_lt_at hy; omega
 ·have := sub_lt_at hx; have := sub_lt_at hy; omega
def Le (up : Bool) (a b : Ty) : Prop := if up = true then SubR a b else SubR b a
theorem le_up {a b : Ty} : Le true a b = SubR a b := rfl
theorem le_down {a b : Ty} : Le false a b = SubR b a := rfl
theorem Le.kind {up : Bool} {a b : Ty} (h : Le up a b) : a.kind = b.kind := by
 cases up with
 | false => rw [le_down, SubR] at h; exact h.1.symm
 | true => rw [le_up, SubR] at h; exact h.1
def loses (k : Int) (up : Bool) : Prop := (k = 5 /\ up = true) \/ (k = 6 /\ up = false)
def wins (k : Int) (up : Bool) : Prop := (k = 6 /\ up = true) \/ (k = 5 /\ up = false)
theorem le_loses {up : Bool} {a b : Ty} (hl : loses a.kind up) : Le up a b ↔ a.kind = b.kind /\ ∀ s y, AtN b s y -> ∃ x, AtN a s x /\ Le up x y := by
 rcases hl with ⟨hk, rfl⟩ | ⟨hk, rfl⟩
 ·rw [le_up, SubR]
  refine ⟨fun ⟨h1, h2, _⟩ => ⟨h1, fun s y hy => ?_⟩, fun ⟨h1, h2⟩ => ⟨h1, fun _ s y hy => ?_, fun h => by omega, fun h => by omega, fun h => by omega⟩⟩
  ·obtain ⟨x, hx, -, h⟩ := h2 hk s y hy
   exact ⟨x, hx, h⟩
  ·obtain ⟨x, hx, h⟩ := h2 s y hy
   exact ⟨x, hx, hy, h⟩
 ·rw [le_down, SubR]
  refine ⟨fun ⟨h1, _, h2, _⟩ => ⟨h1.symm, fun s y hy => ?_⟩, fun ⟨h1, h2⟩ => ⟨h1.symm, fun h => by omega, fun _ s y hy => ?_, fun h => by omega, fun h => by omega⟩⟩
  ·obtain ⟨x, -, hx, h⟩ := h2 (by omega) s y hy
   exact ⟨x, hx, h⟩
  ·obtain ⟨x, hx, h⟩ := h2 s y hy
   exact ⟨x, hy, hx, h⟩
theorem le_wins {up : Bool} {a b : Ty} (hl : wins a.kind up) : Le up a b ↔ a.kind = b.kind /\ ∀ s x, AtN a s x -> ∃ y, AtN b s y /\ Le up x y := by
 rcases hl with ⟨hk, rfl⟩ | ⟨hk, rfl⟩
 ·rw [le_up, SubR]
  refine ⟨fun ⟨h1, _, h2, _⟩ => ⟨h1, fun s y hy => ?_⟩, fun ⟨h1, h2⟩ => ⟨h1, fun h => by omega, fun _ s y hy => ?_, fun h => by omega, fun h => by omega⟩⟩
  ·obtain ⟨x, -, hx, h⟩ := h2 hk s y hy
   exact ⟨x, hx, h⟩
  ·obtain ⟨x, hx, h⟩ := h2 s y hy
   exact ⟨x, hy, hx, h⟩
 ·rw [le_down, SubR]
  refine ⟨fun ⟨h1, h2, _⟩ => ⟨h1.symm, fun s y hy => ?_⟩, fun ⟨h1, h2⟩ => ⟨h1.symm, fun _ s y hy => ?_, fun h => by omega, fun h => by omega, fun h => by omega⟩⟩
  ·obtain ⟨x, hx, -, h⟩ := h2 (by omega) s y hy
   exact ⟨x, hx, h⟩
  ·obtain ⟨x, hx, h⟩ := h2 s y hy
   exact ⟨x, hx, hy, h⟩
theorem le_parts {up : Bool} {a b : Ty} (hk : a.kind = 4 \/ a.kind = 7) : Le up a b ↔ a.kind = b.kind /\ a.subs.length = b.subs.length /\ ∀ i x y, a.subs[i]? = some x -> b.subs[i]? = some y -> Le (if i + 1 = a.subs.length then up else !up) x y := by
 cases up with
 | true =>
  rw [le_up, SubR];refine ⟨fun ⟨h1, _, _, h2, _⟩ => ⟨h1, (h2 hk).1, fun i x y hx hy => ?_⟩, fun ⟨h1, h2, h3⟩ => ⟨h1, fun h => by omega, fun h => by omega, fun _ => ⟨h2, fun i x y hx hy => ?_⟩, fun h => by omega⟩⟩
  ·have := (h2 hk).2 i x y hx hy
   split
   ·exact this.1 (by assumption)
   ·exact this.2 (by assumption)
  ·have := h3 i x y hx hy
   refine ⟨fun e => ?_, fun e => ?_⟩
   ·rw [if_pos e] at this; exact this
   ·rw [if_neg e] at this; exact this
 | false =>
  rw [le_down, SubR];refine ⟨fun ⟨h1, _, _, h2, _⟩ => ⟨h1.symm, (h2 (by omega)).1.symm, fun i x y hx hy => ?_⟩, fun ⟨h1, h2, h3⟩ => ⟨h1.symm, fun h => by omega, fun h => by omega, fun _ => ⟨h2.symm, fun i x y hx hy => ?_⟩, fun h => by omega⟩⟩
  ·have hl := (h2 (by omega)).1
   have := (h2 (by omega)).2 i y x hy hx
   split
   ·exact this.1 (by omega)
   ·exact this.2 (by omega)
  ·have := h3 i y x hy hx
   refine ⟨fun e => ?_, fun e => ?_⟩
   ·rw [if_pos (by omega)] at this; exact this
   ·rw [if_neg (by omega)] at this; exact this
theorem le_leaf {up : Bool} {a b : Ty} (h4 : a.kind ≠ 4) (h5 : a.kind ≠ 5) (h6 : a.kind ≠ 6) (h7 : a.kind ≠ 7) : Le up a b ↔ a = b := by
 cases up with
 | true =>
  rw [le_up, SubR];exact ⟨fun h => h.2.2.2.2 ⟨h4, h5, h6, h7⟩, fun h => by subst h; exact ⟨rfl, fun h => absurd h h5, fun h => absurd h h6, fun h => by omega, fun _ => rfl⟩⟩
 | false =>
  rw [le_down, SubR];exact ⟨fun h => (h.2.2.2.2 (by have := h.1; omega)).symm, fun h => by subst h; exact ⟨rfl, fun h => absurd h h5, fun h => absurd h h6, fun h => by omega, fun _ => rfl⟩⟩
open Classical in
noncomputable def subB (a b : Ty) : Bool := decide (SubR a b)
theorem subB_iff {a b : Ty} : subB a b = true ↔ SubR a b := by unfold subB; simp
theorem subB_no {a b : Ty} : subB a b = false ↔ ¬ SubR a b := by unfold subB; simp
end Go.Proofs.YtddlmigofilejaaGreat
namespace Go.Proofs.YtddlmigofilejaaGreat.M
open Go
structure Toks where
  n : Nat
  K : Nat -> Int
  T : Nat -> ByteArray
namespace Toks
variable (S : Toks)
end Toks
def noT : Ty := .mk 0 ⟨#[]⟩ 0 ⟨#[]⟩ ⟨#[]⟩ [] []
def leafK (k : Int) : Ty := .mk k ⟨#[]⟩ 0 ⟨#[]⟩ ⟨#[]⟩ [] []
end Go.Proofs.YtddlmigofilejaaGreat.M
namespace Go.Proofs.YtddlmigofilejaaGreat
open Go.RowKit
theorem bcell {W w1 : World} (hb : Below W.heap.size W w1) : (∀ b o, b < W.heap.size -> w1.cell? ⟨b, o, none⟩ = W.cell? ⟨b, o, none⟩) /\ (∀ b o, b < W.heap.size -> w1.frozen? ⟨b, o, none⟩ = W.frozen? ⟨b, o, none⟩) :=
  ⟨fun b o h => hb.cell (p := ⟨b, o, none⟩) h, fun b o h => hb.frozen (p := ⟨b, o, none⟩) h⟩
theorem hid_or (b : Bool) : Hid (b = false) \/ Hid (b = true) := by cases b; exact .inl rfl; exact .inr rfl
theorem ret_bool {a b : Bool} (h : b = a) : Ending.returned (.bool a) = .returned (.bool b) := by rw [h]
theorem below_over {w W w1 : World} (h : Below w.heap.size w W) (hb : Below W.heap.size W w1) : Below w.heap.size w w1 := h.trans (hb.mono h.size)
theorem below_new {w W : World} (h : Below w.heap.size w W) (o : Obj) : Below w.heap.size w (W.alloc o) := h.alloc h.size o
theorem below_drewN {B : Nat} {a w : World} (h : Below B a w) (n : Nat) : Below B a (w.drewN n) := h.trans ⟨rfl, rfl, rfl, Nat.le_refl _, fun _ _ => rfl⟩
theorem upto_step {P : Nat -> Bool} {b k : Nat} (h : ∀ j, b <= j -> j < k -> P j = true) (hk : P k = true) : ∀ j, b <= j -> j < k + 1 -> P j = true := fun j a c => by
  rcases Nat.lt_or_ge j k with d | d
  · exact h j a d
  · rw [show j = k by omega]; exact hk
end Go.Proofs.YtddlmigofilejaaGreat
namespace Go.Proofs.YtddlmigofilejaaGreat
open Go Go.ChangeShapes Go.WideShapes Go.ChangeAt Go.RowKit Go.Joins Go.Deep
open M
def NamesAt (w : World) (A : Option Addr) (l : List ByteArray) : Prop :=
 ∀ i s, l[i]? = some s -> ∃ g o, A = some ⟨g, o, none⟩ /\ g < w.heap.size /\ w.cell? ⟨g, o + i, none⟩ = some (.string s) /\ s.size <= 9223372036854775807
inductive TyAt (w : World) : List Value -> Ty -> Prop where
 | mk (kind : Int) (pkg : ByteArray) (major : Int) (mod name : ByteArray) (names : List ByteArray) (subs : List Ty) (An : Option Addr) (cn : Nat) (As : Option Addr) (cs : Nat) (C : Nat -> List Value)
   (hp : pkg.size <= 9223372036854775807) (hm : mod.size <= 9223372036854775807) (hn : name.size <= 9223372036854775807) (hln : names.length <= 9223372036854775807) (hls : subs.length <= 9223372036854775807) (hcs : subs.length <= cs)
   (hN : NamesAt w An names) (hl : ∀ i, (C i).length = 7)
   (hS : ∀ i t, subs[i]? = some t -> ∃ g o, As = some ⟨g, o, none⟩ /\ g < w.heap.size /\ ∀ j v, (C i)[j]? = some v -> w.cell? ⟨g, o + i * 7 + j, none⟩ = some v)
   (hT : ∀ i t, subs[i]? = some t -> TyAt w (C i) t) :
   TyAt w [.int .i64 kind, .string pkg, .int .i64 major, .string mod, .string name, .slice An names.length cn, .slice As subs.length cs] (.mk kind pkg major mod name names subs)
theorem NamesAt.below {w w' : World} {A : Option Addr} {l : List ByteArray} (h : NamesAt w A l) (hb : Below w.heap.size w w') : NamesAt w' A l := by
 intro i s hs
 obtain ⟨g, o, hA, hg, hc, hz⟩ := h i s hs
 exact ⟨g, o, hA, Nat.lt_of_lt_of_le hg hb.size, (hb.cell (p := ⟨g, _, none⟩) hg).trans hc, hz⟩
theorem TyAt.keep {w w' : World} (hb : Below w.heap.size w w') {l : List Value} {t : Ty} (h : TyAt w l t) : TyAt w' l t := by
 induction h with
 | mk kind pkg major mod name names subs An cn As cs C hp hm hn hln hls hcs hN hl hS hT ih =>
  refine .mk kind pkg major mod name names subs An cn As cs C hp hm hn hln hls hcs (hN.below hb) hl (fun i t ht => ?_) ih;obtain ⟨g, o, hA, hg, hc⟩ := hS i t ht;exact ⟨g, o, hA, Nat.lt_of_lt_of_le hg hb.size, fun j v hv => (hb.cell (p := ⟨g, _, none⟩) hg).trans (hc j v hv)⟩
def SubsAt (w : World) (A : Option Addr) (l : List Ty) : Prop :=
 ∀ i t, l[i]? = some t -> ∃ (g o : Nat) (v0 v1 v2 v3 v4 v5 v6 : Value), A = some ⟨g, o, none⟩ /\ g < w.heap.size /\ w.cell? ⟨g, o + i * 7, none⟩ = some v0 /\ w.cell? ⟨g, o + i * 7 + 1, none⟩ = some v1 /\ w.cell? ⟨g, o + i * 7 + 2, none⟩ = some v2 /\
  w.cell? ⟨g, o + i * 7 + 3, none⟩ = some v3 /\ w.cell? ⟨g, o + i * 7 + 4, none⟩ = some v4 /\ w.cell? ⟨g, o + i * 7 + 5, none⟩ = some v5 /\ w.cell? ⟨g, o + i * 7 + 6, none⟩ = some v6 /\ TyAt w [v0, v1, v2, v3, v4, v5, v6] t
theorem SubsAt.below {w w' : World} {A : Option Addr} {l : List Ty} (h : SubsAt w A l) (hb : Below w.heap.size w w') : SubsAt w' A l := by
 intro i t ht
 obtain ⟨g, o, v0, v1, v2, v3, v4, v5, v6, hA, hg, h0, h1, h2, h3, h4, h5, h6, hT⟩ := h i t ht
 have e : ∀ k v, w.cell? ⟨g, k, none⟩ = some v -> w'.cell? ⟨g, k, none⟩ = some v := fun k v hv => (hb.cell (p := ⟨g, _, none⟩) hg).trans hv
 exact ⟨g, o, v0, v1, v2, v3, v4, v5, v6, hA, Nat.lt_of_lt_of_le hg hb.size, e _ _ h0, e _ _ h1, e _ _ h2, e _ _ h3, e _ _ h4, e _ _ h5, e _ _ h6, hT.keep hb⟩
theorem list7 {α : Type} : ∀ l : List α, l.length = 7 -> ∃ a b c d e f g, l = [a, b, c, d, e, f, g]
 | [a, b, c, d, e, f, g], _ => ⟨a, b, c, d, e, f, g, rfl⟩
 | [], h => by simp at h
 | [_], h => by simp at h
 | [_, _], h => by simp at h
 | [_, _, _], h => by simp at h
 | [_, _, _, _], h => by simp at h
 | [_, _, _, _, _], h => by simp at h
 | [_, _, _, _, _, _], h => by simp at h
 | _ :: _ :: _ :: _ :: _ :: _ :: _ :: _ :: _, h => by simp at h
theorem TyAt.parts {w : World} {l : List Value} {t : Ty} (h : TyAt w l t) : ∃ (An : Option Addr) (cn : Nat) (As : Option Addr) (cs : Nat),
  l = [.int .i64 t.kind, .string t.pkg, .int .i64 t.major, .string t.mod, .string t.name, .slice An t.names.length cn, .slice As t.subs.length cs] /\
  t.pkg.size <= 9223372036854775807 /\ t.mod.size <= 9223372036854775807 /\ t.name.size <= 9223372036854775807 /\ t.names.length <= 9223372036854775807 /\ t.subs.length <= 9223372036854775807 /\ NamesAt w An t.names /\ SubsAt w As t.subs := by
 cases h with
 | mk kind pkg major mod name names subs An cn As cs C hp hm hn hln hls hcs hN hl hS hT =>
  refine ⟨An, cn, As, cs, rfl, hp, hm, hn, hln, hls, hN, fun i t ht => ?_⟩;obtain ⟨g, o, hA, hg, hc⟩ := hS i t ht;have h7 := hT i t ht;obtain ⟨v0, v1, v2, v3, v4, v5, v6, e⟩ := list7 (C i) (hl i);rw [e] at hc h7;exact ⟨g, o, v0, v1, v2, v3, v4, v5, v6, hA, hg, hc 0 _ rfl, hc 1 _ rfl, hc 2 _ rfl, hc 3 _ rfl, hc 4 _ rfl, hc 5 _ rfl, hc 6 _ rfl, h7⟩
def TyV (w : World) (v : Value) (t : Ty) : Prop := ∃ l : List Value, v = .agg l.toArray /\ TyAt w l t
theorem TyV.below {w w' : World} {v : Value} {t : Ty} (h : TyV w v t) (hb : Below w.heap.size w w') : TyV w' v t := by
 obtain ⟨l, e, h⟩ := h
 exact ⟨l, e, h.keep hb⟩
theorem tyCells : Tryz.prog.cellsOf 50 = 7 := by kernel_rfl
theorem tyCellsInt : Tryz.prog.cellsOf 3 = 1 := by kernel_rfl
theorem tyCellsStr : Tryz.prog.cellsOf 9 = 1 := by kernel_rfl
theorem tyCellsNames : Tryz.prog.cellsOf 47 = 1 := by kernel_rfl
theorem tyCellsSubs : Tryz.prog.cellsOf 48 = 1 := by kernel_rfl
section
variable {H : Type} {enc : TypeId × Value -> H} {w : World} {base : Nat} {sp : Nat -> Bool} {held : Bool}
theorem open_names {fuel : Nat} {v : Value} {x : DataW H × List MemPlace} (h : DataW.trod enc Tryz.prog w base sp held fuel 47 [v] = some x) :
  ∃ (A : Option Addr) (c : Nat) (l : List ByteArray), v = .slice A l.length c /\ l.length <= maxLen /\ NamesAt w A l := by
 rcases open_strings Tryz.underlying47 Tryz.underlying9 tyCellsStr h with ⟨hc, -⟩ | ⟨a, len, cap, ss, hc, hb, hl, hm, hss, -, hcell, hz⟩
 ·obtain rfl := List.head_eq_of_cons_eq hc
  exact ⟨none, 0, [], rfl, Nat.zero_le _, fun i s hs => by simp at hs⟩
 ·obtain rfl := List.head_eq_of_cons_eq hc
  have hlen : len <= ss.length := by
   rw [hss]; split
   ·exact hl
   ·exact Nat.le_refl _
  refine ⟨some a, cap, ss.take len, by rw [List.length_take, Nat.min_eq_left hlen], by rw [List.length_take, Nat.min_eq_left hlen]; exact Nat.le_trans hl hm, fun i s hs => ?_⟩;rw [List.getElem?_take] at hs;split at hs
  ·rename_i hil
   have hi : i < ss.length := Nat.lt_of_lt_of_le hil hlen;obtain ⟨b, o, spot⟩ := a;have h0 := hcell 0 (by omega);have hspot : spot = none := by simpa [Addr.add] using World.cell?_spot h0
   subst hspot;have hc := hcell i hi;rw [WideShapes.add_plain] at hc;have he : ss.getD i ByteArray.empty = s := by simp [List.getD_eq_getElem?_getD, hs]
   rw [he] at hc;have hm := hz s (List.mem_of_getElem? hs);unfold maxLen at hm
   exact ⟨b, o, rfl, World.block_lt_of_cell? w _ hc, hc, hm⟩
  ·cases hs
theorem open_tree : ∀ (fuel : Nat) (cs : List Value) (x : DataW H × List MemPlace), DataW.trod enc Tryz.prog w base sp held fuel 50 cs = some x -> ∃ t, TyAt w cs t := by
 intro fuel
 induction fuel using Nat.strongRecOn with
 | ind fuel ih =>
  intro cs x h;obtain ⟨xs, n, hfuel, -, hlen, hxl, hf⟩ := DataW.trod_struct Tryz.underlying50 h;rw [tyCells] at hlen;obtain ⟨c0, c1, c2, c3, c4, c5, c6, rfl⟩ := list7 cs hlen;have q : ∀ j, j < 7 -> ∃ y, xs[j]? = some y := fun j hj => ⟨_, List.getElem?_eq_getElem (by rw [hxl]; exact hj)⟩
  obtain ⟨y0, e0⟩ := q 0 (by omega); obtain ⟨y1, e1⟩ := q 1 (by omega); obtain ⟨y2, e2⟩ := q 2 (by omega); obtain ⟨y3, e3⟩ := q 3 (by omega)
  obtain ⟨y4, e4⟩ := q 4 (by omega); obtain ⟨y5, e5⟩ := q 5 (by omega); obtain ⟨y6, e6⟩ := q 6 (by omega)
  have g0 : DataW.trod enc Tryz.prog w base sp held n 3 (([c0, c1, c2, c3, c4, c5, c6].drop 0).take (Tryz.prog.cellsOf 3)) = some y0 := (hf 0 _ rfl).trans e0;rw [tyCellsInt] at g0;have g1 : DataW.trod enc Tryz.prog w base sp held n 9 (([c0, c1, c2, c3, c4, c5, c6].drop 1).take (Tryz.prog.cellsOf 9)) = some y1 := (hf 1 _ rfl).trans e1;rw [tyCellsStr] at g1;have g2 : DataW.trod enc Tryz.prog w base sp held n 3 (([c0, c1, c2, c3, c4, c5, c6].drop 2).take (Tryz.prog.cellsOf 3)) = some y2 := (hf 2 _ rfl).trans e2;rw [tyCellsInt] at g2;have g3 : DataW.trod enc Tryz.prog w base sp held n 9 (([c0, c1, c2, c3, c4, c5, c6].drop 3).take (Tryz.prog.cellsOf 9)) = some y3 := (hf 3 _ rfl).trans e3;rw [tyCellsStr] at g3;have g4 : DataW.trod enc Tryz.prog w base sp held n 9 (([c0, c1, c2, c3, c4, c5, c6].drop 4).take (Tryz.prog.cellsOf 9)) = some y4 := (hf 4 _ rfl).trans e4;rw [tyCellsStr] at g4;have g5 : DataW.trod enc Tryz.prog w base sp held n 47 (([c0, c1, c2, c3, c4, c5, c6].drop 5).take (Tryz.prog.cellsOf 47)) = some y5 := (hf 5 _ rfl).trans e5;rw [tyCellsNames] at g5;have g6 : DataW.trod enc Tryz.prog w base sp held n 48 (([c0, c1, c2, c3, c4, c5, c6].drop 6).take (Tryz.prog.cellsOf 48)) = some y6 := (hf 6 _ rfl).trans e6;rw [tyCellsSubs] at g6;obtain ⟨k, k0, -, -⟩ := DataW.trod_int Tryz.underlying3 g0;obtain ⟨p, k1, -, zp⟩ := DataW.trod_string Tryz.underlying9 g1;obtain ⟨m, k2, -, -⟩ := DataW.trod_int Tryz.underlying3 g2;obtain ⟨d, k3, -, zd⟩ := DataW.trod_string Tryz.underlying9 g3;obtain ⟨a, k4, -, za⟩ := DataW.trod_string Tryz.underlying9 g4;have h5 : DataW.trod enc Tryz.prog w base sp held n 47 [c5] = some y5 := g5;have h6 : DataW.trod enc Tryz.prog w base sp held n 48 [c6] = some y6 := g6;simp at k0 k1 k2 k3 k4;subst k0 k1 k2 k3 k4;clear g0 g1 g2 g3 g4 g5 g6 e0 e1 e2 e3 e4 e5 e6 q hf h;obtain ⟨An, cn, names, rfl, ln, hN⟩ := open_names h5;unfold maxLen at zp zd za ln
  rcases DataW.trod_slice Tryz.underlying48 h6 with ⟨hc, -⟩ | ⟨a', len, cap, elems, rest, n', hn', hc, -, -, hl, hm, hlen', hel, -, -⟩
  ·obtain rfl := List.head_eq_of_cons_eq hc
   exact ⟨_, .mk k p m d a names [] An cn none 0 (fun _ => [.nilIface, .nilIface, .nilIface, .nilIface, .nilIface, .nilIface, .nilIface]) zp zd za ln (by simp) (by simp) hN (fun _ => rfl) (fun i t ht => by simp at ht) (fun i t ht => by simp at ht)⟩
  ·obtain rfl := List.head_eq_of_cons_eq hc
   rw [tyCells] at hel
   have hall : ∀ i, ∃ q : Ty × List Value, q.2.length = 7 /\ (i < len -> w.cells? base (a'.add (i * 7)) 7 = some q.2 /\ TyAt w q.2 q.1) := by
    intro i;by_cases hi : i < len
    ·have h1 := hel i hi
     rw [List.getElem?_eq_getElem (by rw [hlen']; exact hi)] at h1;obtain ⟨cs', h2, h3⟩ := Option.bind_eq_some_iff.1 h1;obtain ⟨t, ht⟩ := ih n' (by omega) cs' _ h3;exact ⟨(t, cs'), (World.cells?_some h2).2.1, fun _ => ⟨h2, ht⟩⟩
    ·exact ⟨(.mk 0 ⟨#[]⟩ 0 ⟨#[]⟩ ⟨#[]⟩ [] [], [.nilIface, .nilIface, .nilIface, .nilIface, .nilIface, .nilIface, .nilIface]), rfl, fun h => absurd h hi⟩
   obtain ⟨F, hF⟩ := Classical.axiomOfChoice hall;clear hall hel ih
   have hsome : ∀ i t, ((List.range len).map fun i => (F i).1)[i]? = some t -> i < len /\ t = (F i).1 := by
    intro i t ht;rw [List.getElem?_map] at ht;rcases Nat.lt_or_ge i len with hi | hi
    ·rw [List.getElem?_range hi] at ht
     exact ⟨hi, (Option.some.inj ht).symm⟩
    ·rw [List.getElem?_eq_none (by simpa using hi)] at ht
     cases ht
   have hle : ((List.range len).map fun i => (F i).1).length = len := by simp
   have hlz : ((List.range len).map fun i => (F i).1).length <= 9223372036854775807 := by
    rw [hle]; unfold maxLen at hm; exact Nat.le_trans hl hm
   have T := TyAt.mk (w := w) k p m d a names ((List.range len).map fun i => (F i).1) An cn (some a') cap (fun i => (F i).2) zp zd za ln hlz (by rw [hle]; exact hl) hN (fun i => (hF i).1)
    (fun i t ht => by
     obtain ⟨hi, -⟩ := hsome i t ht;obtain ⟨b, o, spot⟩ := a'
     have hspot : spot = none := by
      have hc := (World.cells?_some ((hF 0).2 (by omega)).1).2.2 0 (by omega);rw [List.getElem?_eq_getElem (by rw [(hF 0).1]; omega)] at hc;have := World.cell?_spot hc
      simpa [Addr.add] using this
     subst hspot;have hat := (World.cells?_some ((hF i).2 hi).1).2.2
     have hcell : ∀ j v, (F i).2[j]? = some v -> w.cell? ⟨b, o + i * 7 + j, none⟩ = some v := by
      intro j v hv
      have hj : j < 7 := by
       have := (List.getElem?_eq_some_iff.1 hv).1
       rw [(hF i).1] at this; exact this
      have := hat j hj
      rw [WideShapes.add_plain, WideShapes.add_plain] at this;rw [this]; exact hv
     refine ⟨b, o, rfl, ?_, hcell⟩;exact World.block_lt_of_cell? w _ (hcell 0 _ (List.getElem?_eq_getElem (by rw [(hF i).1]; omega))))
    (fun i t ht => by
     obtain ⟨hi, rfl⟩ := hsome i t ht;exact ((hF i).2 hi).2)
   rw [hle] at T;exact ⟨_, T⟩
end
end Go.Proofs.YtddlmigofilejaaGreat
namespace Go.Proofs.YtddlmigofilejaaGreat
open Go.RowKit
open M
def boxed (w : World) (c : Array Value) : World := w.alloc (.cells c 50)
theorem box_cell {w w' : World} {c : Array Value} (hb : Below (boxed w c).heap.size (boxed w c) w') (i : Nat) : w'.cell? ⟨w.heap.size, i, none⟩ = c[i]? := by
  have h : (boxed w c).cell? ⟨w.heap.size, i, none⟩ = c[i]? := cell_of_row _ _ i c _ (0, 0) (heap_alloc_new w _);exact (hb.cell (p := ⟨w.heap.size, i, none⟩) (by simp [boxed])).trans h
theorem box_below {w w' : World} {c : Array Value} (hb : Below (boxed w c).heap.size (boxed w c) w') : Below w.heap.size w w' :=
  (below_new (Below.refl _ _) _).trans (hb.mono (by simp [boxed]))
theorem ret_int' {a b : Int} (h : b = a) : Ending.returned (.int .i64 a) = .returned (.int .i64 b) := by rw [h]
theorem manyL_eq (t : Ty) : many t = 1 + manyL t.subs := by cases t; rfl
theorem deep_eq (t : Ty) : deep t = deepL t.subs + 1 := by cases t; rfl
theorem plain_eq (t : Ty) : plainT t = (!(t.kind == 8) && plainL t.subs) := by cases t; rfl
theorem sub_many {t : Ty} {k : Nat} {s : Ty} (h : t.subs[k]? = some s) : many s < many t := by
  have := manyL_mem t.subs s (List.mem_of_getElem? h)
  rw [manyL_eq t]; omega
theorem deepL_append : ∀ (a b : List Ty), deepL (a ++ b) = max (deepL a) (deepL b)
  | [], b => by simp [deepL]
  | t :: r, b => by
    have := deepL_append r b
    simp only [List.cons_append, deepL, this]; omega
theorem deepL_take (l : List Ty) (k : Nat) (t : Ty) (h : l[k]? = some t) : deepL (l.take (k + 1)) = max (deepL (l.take k)) (deep t) := by
  rw [List.take_add_one, h, deepL_append];simp [deepL]
mutual
theorem deep_many : ∀ t : Ty, deep t <= many t
  | .mk _ _ _ _ _ _ subs => by
    have := deepL_many subs
    unfold deep many; omega
theorem deepL_many : ∀ l : List Ty, deepL l <= manyL l
  | [] => by simp [deepL]
  | t :: r => by
    have a := deep_many t;have b := deepL_many r;unfold deepL manyL; omega
end
theorem plainL_mem : ∀ (l : List Ty), plainL l = true ↔ ∀ t ∈ l, plainT t = true
  | [] => by simp [plainL]
  | t :: r => by simp [plainL, plainL_mem r]
theorem TyAt.seven {w : World} {v0 v1 v2 v3 v4 v5 v6 : Value} {t : Ty} (h : TyAt w [v0, v1, v2, v3, v4, v5, v6] t) : ∃ (An : Option Addr) (cn : Nat) (As : Option Addr) (cs : Nat),
    v0 = .int .i64 t.kind /\ v1 = .string t.pkg /\ v2 = .int .i64 t.major /\ v3 = .string t.mod /\ v4 = .string t.name /\ v5 = .slice An t.names.length cn /\ v6 = .slice As t.subs.length cs := by
  obtain ⟨An, cn, As, cs, e, -⟩ := h.parts;exact ⟨An, cn, As, cs, by simpa using e⟩
end Go.Proofs.YtddlmigofilejaaGreat
namespace Go.Proofs.YtddlmigofilejaaGreat
open Go.RowKit
open M
open Classical in
noncomputable def strike (S : Nat -> Prop) (w : World) : World := { w with heap := w.heap.mapIdx fun i o => if S i then .cells #[] 0 (0, 0) else o }
theorem strike_size (S : Nat -> Prop) (w : World) : (strike S w).heap.size = w.heap.size := by simp [strike]
theorem strike_cell {S : Nat -> Prop} {w : World} {b o : Nat} {x : Value} : (strike S w).cell? ⟨b, o, none⟩ = some x ↔ ¬ S b /\ w.cell? ⟨b, o, none⟩ = some x := by
  by_cases hb : S b
  · simp only [hb, not_true, false_and, iff_false]
    intro h;have hlt := World.block_lt_of_cell? _ _ h;rw [strike_size] at hlt;rw [cZ (cs := #[]) (T := 0) (fr := (0, 0)) (by simp [strike, hlt, hb])] at h;simp at h
  · simp only [hb, not_false_eq_true, true_and]
    have e : (strike S w).heap[b]? = w.heap[b]? := by
      rcases Nat.lt_or_ge b w.heap.size with h | h
      · simp [strike, h, hb]
      · rw [Array.getElem?_eq_none h, Array.getElem?_eq_none (by rw [strike_size]; exact h)]
    rw [World.cell?_of_block (w := w) (w' := strike S w) (a := ⟨b, o, none⟩) e]
theorem NamesAt.cells {w w' : World} {A : Option Addr} {l : List ByteArray} (hz : w.heap.size <= w'.heap.size) (hc : ∀ b o x, w.cell? ⟨b, o, none⟩ = some x -> w'.cell? ⟨b, o, none⟩ = some x) (h : NamesAt w A l) : NamesAt w' A l := by
  intro i s hs;obtain ⟨g, o, hA, hg, h1, h2⟩ := h i s hs;exact ⟨g, o, hA, Nat.lt_of_lt_of_le hg hz, hc _ _ _ h1, h2⟩
theorem TyAt.cells {w w' : World} (hz : w.heap.size <= w'.heap.size) (hc : ∀ b o x, w.cell? ⟨b, o, none⟩ = some x -> w'.cell? ⟨b, o, none⟩ = some x) {l : List Value} {t : Ty} (h : TyAt w l t) : TyAt w' l t := by
  induction h with
  | mk kind pkg major mod name names subs An cn As cs C hp hm hn hln hls hcs hN hl hS hT ih =>
    refine .mk kind pkg major mod name names subs An cn As cs C hp hm hn hln hls hcs (hN.cells hz hc) hl (fun i t ht => ?_) ih;obtain ⟨g, o, hA, hg, h1⟩ := hS i t ht;exact ⟨g, o, hA, Nat.lt_of_lt_of_le hg hz, fun j v hv => hc _ _ _ (h1 j v hv)⟩
theorem run_append_empty {P : Program} {w : World} (base : Nat) (t ty e : TypeId) (i : TypeInfo) (size : Nat) (ht : P.underlying t = some (.slice e)) (hi : P.info? e = some i)
    (v : Value) (n c : Nat) (xs : List Value) (hown : w.ownsRow base e size v n xs) : (Builtin.append_ #[t, t] ty #[v, .slice none 0 c]).run P w = .ok v w := by
  rcases hown.2 with ⟨rfl, rfl⟩ | ⟨g, cap, cur, rfl, _, _, hnc, _⟩
  · simp [Builtin.append_, run_underlying ht, sizeOf, typeInfo, hi, Builtin.lenOf, Builtin.firstCells]
  · simp [Builtin.append_, run_underlying ht, sizeOf, typeInfo, hi, Builtin.lenOf, Builtin.firstCells, hnc, storeCells]
theorem own_names {w : World} {base n : Nat} {v : Value} {l : List ByteArray} (h : w.ownsRow base 9 1 v n (l.map Value.string)) (hs : ∀ (i : Nat) (s : ByteArray), l[i]? = some s -> s.size <= 9223372036854775807) :
    l.length = n /\ ∃ A c, v = .slice A n c /\ ∀ S : Nat -> Prop, (∀ b, base <= b -> ¬ S b) -> NamesAt (strike S w) A l := by
  have hlen : l.length = n := by have := h.1; simpa using this
  refine ⟨hlen, ?_⟩;rcases h.2 with ⟨rfl, h0⟩ | ⟨g, cap, cur, rfl, hB, hg, hnc, hcm, hcs, htake⟩
  · refine ⟨none, 0, by rw [h0], fun S _ i s hi => ?_⟩
    have := (List.getElem?_eq_some_iff.1 hi).1
    omega
  · refine ⟨some ⟨g, 0, none⟩, cap, rfl, fun S hS i s hi => ?_⟩
    refine ⟨g, 0, rfl, by rw [strike_size]; exact (Array.getElem?_eq_some_iff.1 hg).1, ?_, hs i s hi⟩;have hi' := (List.getElem?_eq_some_iff.1 hi).1
    refine strike_cell.2 ⟨hS g hB, ?_⟩;rw [cZ hg, Nat.zero_add, <- Array.getElem?_toList];have e : (cur.toList.take (n * 1))[i]? = some (.string s) := by rw [htake, List.getElem?_map, hi]; rfl
    rw [List.getElem?_take] at e;split at e
    · exact e
    · cases e
structure Cp (w : World) (t : Ty) (A5 : Option Addr) (c5 : Nat) (j : Nat) (A6 : Option Addr) (c6 : Nat) (wr : World) : Prop where
  below : Below w.heap.size w wr
  box : wr.heap[w.heap.size]? = some (.cells #[.int .i64 t.kind, .string t.pkg, .int .i64 t.major, .string t.mod, .string t.name, .slice A5 t.names.length c5, .slice A6 j c6] 50 (0, 0))
  res : wr.heap[w.heap.size + 1]? = some (.cells #[.int .i64 0, .string ⟨#[]⟩, .int .i64 0, .string ⟨#[]⟩, .string ⟨#[]⟩, .slice none 0 0, .slice none 0 0] 50 (0, 0))
  names : NamesAt (strike (fun b => b < w.heap.size + 2 \/ (Value.slice A6 j c6).ownBlock = some b) wr) A5 t.names
  subs : ∃ C : Nat -> List Value, (∀ i, (C i).length = 7) /\ wr.ownsRow (w.heap.size + 2) 50 7 (.slice A6 j c6) j ((List.range j).map C).flatten /\
    ∀ i s, i < j -> t.subs[i]? = some s -> TyAt (strike (fun b => b < w.heap.size + 2 \/ (Value.slice A6 j c6).ownBlock = some b) wr) (C i) s
theorem lower_any (n : Int) (w : World) : Calls Tryz.prog 119 #[.int .u8 n] w fun e w' => e = .returned (.bool (lowC n)) /\ w = w' := by
  go_enter Tryz.func119, Tryz.ntmps119
  go_wp2
  all_goals go_ret
  all_goals exact ⟨ret_bool (by unfold lowC; simp_all; try omega), rfl⟩
theorem upper_any (n : Int) (w : World) : Calls Tryz.prog 144 #[.int .u8 n] w fun e w' => e = .returned (.bool (upC n)) /\ w = w' := by
  go_enter Tryz.func144, Tryz.ntmps144
  go_wp2
  all_goals go_ret
  all_goals exact ⟨ret_bool (by unfold upC; simp_all; try omega), rfl⟩
theorem digit_any (n : Int) (w : World) : Calls Tryz.prog 147 #[.int .u8 n] w fun e w' => e = .returned (.bool (digC n)) /\ w = w' := by
  go_enter Tryz.func147, Tryz.ntmps147
  go_wp2
  all_goals go_ret
  all_goals exact ⟨ret_bool (by unfold digC; simp_all; try omega), rfl⟩
theorem lowDig_any (n : Int) (w : World) : Calls Tryz.prog 120 #[.int .u8 n] w fun e w' => e = .returned (.bool (lowDigC n)) /\ w = w' := by
  unfold lowDigC
  rcases hid_or (lowC n) with h | h <;> rw [h.out]
  all_goals
    go_enter Tryz.func120, Tryz.ntmps120
    go_wp2_with fail
    refine (lower_any _ _).mono ?_; rintro e w' ⟨rfl, rfl⟩; rw [h.out]
    go_wp2_with (go_at_call 147; refine (digit_any _ _).mono ?_; rintro e w' ⟨rfl, rfl⟩)
    go_ret;exact ⟨rfl, rfl⟩
theorem any_any (n : Int) (w : World) : Calls Tryz.prog 145 #[.int .u8 n] w fun e w' => e = .returned (.bool (anyC n)) /\ w = w' := by
  unfold anyC
  rcases hid_or (lowC n) with h | h <;> rw [h.out]
  · rcases hid_or (upC n) with h2 | h2 <;> rw [h2.out]
    all_goals
      go_enter Tryz.func145, Tryz.ntmps145
      go_wp2_with fail
      refine (lower_any _ _).mono ?_; rintro e w' ⟨rfl, rfl⟩; rw [h.out]
      go_wp2_with fail
      refine (upper_any _ _).mono ?_; rintro e w' ⟨rfl, rfl⟩; rw [h2.out]
      go_wp2_with (go_at_call 147; refine (digit_any _ _).mono ?_; rintro e w' ⟨rfl, rfl⟩)
      go_ret;exact ⟨rfl, rfl⟩
  · go_enter Tryz.func145, Tryz.ntmps145
    go_wp2_with fail
    refine (lower_any _ _).mono ?_; rintro e w' ⟨rfl, rfl⟩; rw [h.out]
    go_wp2
    go_ret;exact ⟨rfl, rfl⟩
theorem key_any (s : ByteArray) (w : World) : Calls Tryz.prog 121 #[.string s] w fun e w' => e = .returned (.bool (keyB s.data.toList)) /\ w = w' := by
  have E := hZ (show s.toList = s.data.toList from Lib.toList_data s);go_enter Tryz.func121, Tryz.ntmps121
  go_wp2
  all_goals go_ret
  all_goals refine ⟨ret_bool ?_, rfl⟩
  all_goals (rw [<- E.out]; clear E; simp_all [keyB, keys])
theorem word_any (s : ByteArray) (w : World) : Calls Tryz.prog 146 #[.string s] w fun e w' => e = .returned (.bool (wordB s.data.toList)) /\ w = w' := by
  have E := hZ (show s.toList = s.data.toList from Lib.toList_data s);go_enter Tryz.func146, Tryz.ntmps146
  go_wp2
  all_goals go_ret
  all_goals refine ⟨ret_bool ?_, rfl⟩
  all_goals (rw [<- E.out]; clear E; simp_all [wordB, words])
end Go.Proofs.YtddlmigofilejaaGreat
