/-
  Plain mathematics for layer 4: which types may be.
-/
import Derived.Test.YtnnppdlhmcobcaaDoorTyM
import GoSem.Op.String
namespace Go.Proofs.YtnnppdlhmcobcaaDoor.M
open Go

/-- One text stands ahead of another, or is it. -/
def leS (a b : ByteArray) : Bool := Op.bytesLess a.toList b.toList || a.toList == b.toList
def nameAt (l : List ByteArray) (i : Nat) : ByteArray := l.getD i ⟨#[]⟩
/-- Is the name at that place at fault? -/
def badName (kind : Int) (names : List ByteArray) (i : Nat) : Bool :=
  (kind == 5 && !smallB (nameAt names i).data.toList) || (kind == 6 && !greatB (nameAt names i).data.toList) || (decide (0 < i) && leS (nameAt names i) (nameAt names (i - 1)))
def namesOk (kind : Int) (names : List ByteArray) : Bool := (List.range names.length).all fun i => !badName kind names i
def emptyB (s : ByteArray) : Bool := decide (s.size = 0)
def noMore (t : Ty) : Bool := emptyB t.pkg && (t.major == 0) && emptyB t.mod && emptyB t.name
/-- Is a type's shape that of its kind? -/
def shapeOk (t : Ty) : Bool :=
  if t.kind = 1 ∨ t.kind = 2 ∨ t.kind = 3 then noMore t && decide (t.subs.length = 0) && decide (t.names.length = 0)
  else if t.kind = 4 then noMore t && decide (t.subs.length = 1) && decide (t.names.length = 0)
  else if t.kind = 5 then noMore t && decide (t.subs.length = t.names.length)
  else if t.kind = 6 then noMore t && decide (t.subs.length = t.names.length) && decide (0 < t.subs.length)
  else if t.kind = 7 then noMore t && decide (0 < t.subs.length) && decide (t.names.length = 0)
  else if t.kind = 8 then decide (t.subs.length = 0) && decide (t.names.length = 0) && emptyB t.pkg && (t.major == 0) && greatB t.name.data.toList && (smallB t.mod.data.toList || emptyB t.mod)
  else if t.kind = 9 then decide (t.subs.length = 0) && decide (t.names.length = 0) && smallB t.pkg.data.toList && smallB t.mod.data.toList && greatB t.name.data.toList && decide (1 ≤ t.major) && decide (t.major ≤ 999999999)
  else false
def ownOk (t : Ty) : Bool := decide (t.subs.length ≤ 20) && namesOk t.kind t.names && shapeOk t

-- .. and all in it
mutual
def allOk : Ty → Bool
  | .mk k p m d n names subs => ownOk (.mk k p m d n names subs) && allOkL subs
def allOkL : List Ty → Bool
  | [] => true
  | t :: r => allOk t && allOkL r
end
def mayT (t : Ty) : Bool := allOk t && decide (many t ≤ 500) && decide (deep t ≤ 32)

theorem allOk_eq (t : Ty) : allOk t = (ownOk t && allOkL t.subs) := by cases t; rfl
theorem allOkL_mem : ∀ (l : List Ty), allOkL l = true ↔ ∀ t ∈ l, allOk t = true
  | [] => by simp [allOkL]
  | t :: r => by simp [allOkL, allOkL_mem r]
theorem namesOk_iff (kind : Int) (names : List ByteArray) : namesOk kind names = true ↔ ∀ i, i < names.length → badName kind names i = false := by
  unfold namesOk
  simp [List.all_eq_true]
theorem own_long {t : Ty} (h : 20 < t.subs.length) : ownOk t = false := by
  unfold ownOk
  rw [show decide (t.subs.length ≤ 20) = false by simp; omega]; rfl
theorem own_bad {t : Ty} {i : Nat} (hi : i < t.names.length) (h : badName t.kind t.names i = true) : ownOk t = false := by
  have : namesOk t.kind t.names = false := by
    rw [Bool.eq_false_iff, ne_eq, namesOk_iff]
    intro a
    have := a i hi
    rw [h] at this; cases this
  unfold ownOk
  rw [this]; simp
theorem own_good {t : Ty} (h : t.subs.length ≤ 20) (hn : ∀ i, i < t.names.length → badName t.kind t.names i = false) : ownOk t = shapeOk t := by
  unfold ownOk
  rw [(namesOk_iff _ _).2 hn, show decide (t.subs.length ≤ 20) = true by simpa using h]; simp

end Go.Proofs.YtnnppdlhmcobcaaDoor.M
