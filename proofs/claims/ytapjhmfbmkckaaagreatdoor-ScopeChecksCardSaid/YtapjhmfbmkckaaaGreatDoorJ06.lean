/-
  Several texts in one: The walk of the reference's Tokens: the same tokens, or the place at which nothing stands. · The reference's Tokens, in the words that a caller needs. · Parse of the code, and of the reference: the type of a text. · Plain mathematics for layer 6: modules, and what reading one comes to. · The code's keys: asked for, taken; what a key declares. · The code's Read: what expr.At reads, from where the cursor stands. · Rows of structs in new memory, while they grow, whatever their elements are; an import's cells, a declaration's. · A module handed in: what its cells read as. · The code's imports: one, and all that stand there. · The code's imports, all that stand there. · The code's declaration. · The walk of the code's declaration. · The code's module, behind its text's tokens. · The walk of the code's reading of a module. · The code's Parse of a module's text. · The reference's reader of modules: what it asks of a token, and takes. · The reference's Major, of modules. · The reference's Type, of modules. · The reference's Import, of modules. · The reference's declaration. · The reference's Parse of modules: what its loops stand on.
-/
import Derived.Test.YtapjhmfbmkckaaaGreatDoorJ05
import Derived.Deep.DeepCutAuto
import Derived.Deep.CutBlock
import Derived.Test.YtapjhmfbmkckaaaGreatDoorChecked
import Derived.ProofKit
import Derived.OpenShut
import Derived.Lib.SmallJoins
import Derived.Deep.Slices
import Derived.Deep.Strs
import Derived.DataReads
import Derived.WideShapes
import Derived.Test.YtapjhmfbmkckaaaGreatDoorJ04
import Derived.Test.YtapjhmfbmkckaaaGreatDoorJ01
import Derived.LoopTactic
import Derived.Test.YtapjhmfbmkckaaaGreatDoorJ03
/- The walk of the reference's Tokens: the same tokens, or the place at which nothing stands. -/
namespace Go.Proofs.YtapjhmfbmkckaaaGreatDoor
open Go.RowKit
open M

/-- What stands at a place at which no blank and no remark does. -/
theorem item_rest (l : List UInt8) (k : Nat) (x : Int) (e : bt l k = x) (h1 : x ≠ 32) (h2 : x ≠ 9) (h3 : x ≠ 10) (h4 : x ≠ 35) : item l k =
    if lowC (bt l k) = true then (1, stop anyC l (k + 1))
    else if upC (bt l k) = true then (2, stop anyC l (k + 1))
    else if digC (bt l k) = true then (3, stop digC l (k + 1))
    else if twoC (bt l k) (bt l (k + 1)) = true then (4, k + 2)
    else if signC (bt l k) = true then (4, k + 1)
    else (5, k) := by
  subst e
  unfold item
  rw [if_neg (by unfold blankC; simp [h1, h2, h3]), if_neg h4]

end Go.Proofs.YtapjhmfbmkckaaaGreatDoor

/- The reference's Tokens, in the words that a caller needs. -/
namespace Go.Proofs.YtapjhmfbmkckaaaGreatDoor
open Go.RowKit
open M

end Go.Proofs.YtapjhmfbmkckaaaGreatDoor

/- Parse of the code, and of the reference: the type of a text. -/
namespace Go.Proofs.YtapjhmfbmkckaaaGreatDoor
open Go.RowKit
open Go.Sort
open M

theorem finN_size (s : ByteArray) : ∀ (n i : Nat) (acc : List Tok), (∀ t ∈ acc, t.text.size ≤ s.size) → ∀ t ∈ (finN s n i acc).1, t.text.size ≤ s.size
  | 0, _, acc, h => h
  | n + 1, i, acc, h => by
    unfold finN
    split
    · exact h
    split
    · intro t ht; simp at ht
    split
    · exact finN_size s n _ acc h
    · refine finN_size s n _ _ fun t ht => ?_
      rcases List.mem_append.1 ht with ht | ht
      · exact h t ht
      · rw [List.mem_singleton.1 ht]
        simp only [ByteArray.size_extract]
        omega
theorem fin_size (s : ByteArray) {ts : List Tok} (h : fin s 0 [] = (ts, -1)) : ∀ t ∈ ts, t.text.size ≤ s.size := by
  have := finN_size s (s.size - 0) 0 [] (fun t ht => by simp at ht)
  unfold fin at h
  rw [h] at this
  exact this
theorem finN_len (s : ByteArray) : ∀ (n i : Nat) (acc : List Tok), (finN s n i acc).1.length ≤ acc.length + n
  | 0, _, acc => by unfold finN; exact Nat.le_refl _
  | n + 1, i, acc => by
    unfold finN
    split
    · show acc.length ≤ _; omega
    split
    · show 0 ≤ _; omega
    split
    · have := finN_len s n (item s.data.toList i).2 acc; omega
    · have := finN_len s n (item s.data.toList i).2 (acc ++ [⟨(item s.data.toList i).1, i, s.extract i (item s.data.toList i).2⟩])
      simp at this; omega
theorem fin_len (s : ByteArray) {ts : List Tok} (h : fin s 0 [] = (ts, -1)) : ts.length ≤ s.size := by
  have := finN_len s (s.size - 0) 0 []
  unfold fin at h
  rw [h] at this
  simpa using this
/-- Tokens by place. -/
def tkS (ts : List Tok) : Toks := ⟨ts.length, fun i => ((ts[i]?).map (fun t => (t.kind : Int))).getD 0, fun i => ((ts[i]?).map (fun t => t.text)).getD ⟨#[]⟩⟩
theorem RowAt.toks {w : World} {A : Option Addr} {ts : List Tok} (h : RowAt w A ts) (hs : ∀ t ∈ ts, t.text.size ≤ 20000) : TokAt w A (tkS ts) := by
  intro i hi
  have hi' : i < ts.length := hi
  have ht : ts[i]? = some ts[i] := List.getElem?_eq_getElem hi'
  obtain ⟨g, hA, hg, h0, h1, h2⟩ := h i _ ht
  have eK : (tkS ts).K i = (ts[i].kind : Int) := by unfold tkS; simp [ht]
  have eT : (tkS ts).T i = ts[i].text := by unfold tkS; simp [ht]
  refine ⟨g, 0, _, hA, hg, by rw [Nat.zero_add, eK]; exact h0, by rw [Nat.zero_add]; exact h1, by rw [Nat.zero_add, eT]; exact h2, ?_⟩
  rw [eT]
  have := hs _ (List.getElem_mem hi')
  omega
theorem tkS_small {ts : List Tok} (hs : ∀ t ∈ ts, t.text.size ≤ 20000) : ∀ i, i < (tkS ts).n → ((tkS ts).T i).size ≤ 281474976710656 := fun i hi => by
  have hi' : i < ts.length := hi
  have ht : ts[i]? = some ts[i] := List.getElem?_eq_getElem hi'
  have eT : (tkS ts).T i = ts[i].text := by unfold tkS; simp [ht]
  rw [eT]
  have := hs _ (List.getElem_mem hi')
  omega
/-- What stands behind a type is amiss. -/
def endR (n : Nat) : Res Ty → Res Ty
  | .err b j => .err b j
  | .ok t j c => if j < n then .err 2 j else .ok t j c
/-- The type of a text that isn't too long. -/
def parR (s : ByteArray) : Res Ty := if (fin s 0 []).2 < 0 then endR (fin s 0 []).1.length (atR (tkS (fin s 0 []).1) 0) else .err 2 (fin s 0 []).2.toNat
theorem parR_yes {s : ByteArray} {ts : List Tok} (h : fin s 0 [] = (ts, -1)) : parR s = endR ts.length (atR (tkS ts) 0) := by unfold parR; rw [h]; rfl
theorem parR_no {s : ByteArray} {k : Nat} (h : fin s 0 [] = ([], (k : Int))) : parR s = .err 2 k := by unfold parR; rw [h]; rw [if_neg (by show ¬ (k : Int) < 0; omega)]; rfl

/-- A Spot's two cells. -/
def SpC (g : Nat) (x : Int) (b : Nat) (w : World) : Prop := g < w.heap.size ∧ w.cell? ⟨g, 0, none⟩ = some (.int .i64 x) ∧ w.cell? ⟨g, 1, none⟩ = some (.iface 70 (.int .i64 b))
theorem SpAt.cells {g : Nat} {x : Int} {b : Nat} {w : World} (h : SpAt g x b w) : SpC g x b w := ⟨(Array.getElem?_eq_some_iff.1 h).1, by have := Lib.cell_of_heap h 0; simpa using this, by have := Lib.cell_of_heap h 1; simpa using this⟩
theorem SpC.below {g : Nat} {x : Int} {b : Nat} {w w' : World} (h : SpC g x b w) (hb : Below w.heap.size w w') : SpC g x b w' := ⟨Nat.lt_of_lt_of_le h.1 hb.size, (hb.cell (p := ⟨g, 0, none⟩) h.1).trans h.2.1, (hb.cell (p := ⟨g, 1, none⟩) h.1).trans h.2.2⟩
theorem SpC.row {g r : Nat} {x : Int} {b : Nat} {w : World} (h : SpC g x b w) (hne : g ≠ r) (vs : Array Value) : SpC g x b (w.setRow r vs) :=
  ⟨by have := h.1; simpa using this, (World.cell?_of_block (a := ⟨g, 0, none⟩) (setRow_other w r g vs hne)).trans h.2.1, (World.cell?_of_block (a := ⟨g, 1, none⟩) (setRow_other w r g vs hne)).trans h.2.2⟩

/-- What Parse leaves. -/
def PrOut (w : World) (R : Res Ty) (e : Ending) (w' : World) : Prop :=
  Below w.heap.size w w' ∧
  ((∃ (l : List Value) (t : Ty) (j c : Nat), R = .ok t j c ∧ e = .returned (.tuple #[.agg l.toArray, .nilIface]) ∧ TyAt (strike (· < w.heap.size) w') l t) ∨
   (∃ (b j g : Nat), R = .err b j ∧ b ≠ 0 ∧ e = .returned (.tuple #[.agg #[.int .i64 0, .string ⟨#[]⟩, .int .i64 0, .string ⟨#[]⟩, .string ⟨#[]⟩, .slice none 0 0, .slice none 0 0], .iface 91 (.pointer (some ⟨g, 0, none⟩))]) ∧ SpC g j b w'))
theorem toks_cases (s : ByteArray) : (∃ ts, fin s 0 [] = (ts, -1)) ∨ ∃ k : Nat, fin s 0 [] = ([], (k : Int)) := by
  rcases fin_at s s.size 0 [] (by omega) with h | ⟨k, -, h⟩
  · exact .inl ⟨(fin s 0 []).1, by rw [← h]⟩
  · exact .inr ⟨k, h⟩

/-- What the reference's Parse leaves. -/
def RrOut (w : World) (R : Res Ty) (e : Ending) (w' : World) : Prop :=
  Below w.heap.size w w' ∧
  ((∃ (l : List Value) (t : Ty) (j c : Nat), R = .ok t j c ∧ e = .returned (.tuple #[.agg l.toArray, .int .i64 0, .int .i64 (-1)]) ∧ TyAt (strike (· < w.heap.size) w') l t) ∨
   (∃ (b j : Nat), R = .err b j ∧ b ≠ 0 ∧ e = .returned (.tuple #[.agg #[.int .i64 0, .string ⟨#[]⟩, .int .i64 0, .string ⟨#[]⟩, .string ⟨#[]⟩, .slice none 0 0, .slice none 0 0], .int .i64 b, .int .i64 j])))

end Go.Proofs.YtapjhmfbmkckaaaGreatDoor

/- Plain mathematics for layer 6: modules, and what reading one comes to. -/
namespace Go.Proofs.YtapjhmfbmkckaaaGreatDoor
open Go.RowKit
open Go.Sort
open M

structure Im where
  pkg : ByteArray
  major : Int
  mod : ByteArray
  asn : ByteArray
structure De where
  kind : Int
  name : ByteArray
  typ : Ty
structure Mo where
  name : ByteArray
  imps : List Im
  decs : List De

def kModule : List UInt8 := [109, 111, 100, 117, 108, 101]
def kImport : List UInt8 := [105, 109, 112, 111, 114, 116]
def kAs : List UInt8 := [97, 115]
def keyS (S : Toks) (i : Nat) (l : List UInt8) : Bool := decide (i < S.n) && (S.K i == 1) && ((S.T i).data.toList == l)
theorem key_lt {S : Toks} {i : Nat} {l : List UInt8} (h : keyS S i l = true) : i < S.n := by
  unfold keyS at h; simp only [Bool.and_eq_true, decide_eq_true_eq] at h; exact h.1.1

/-- The kind of what a key declares, or 0. -/
def declK (l : List UInt8) : Int :=
  if l = [111, 112, 97, 113, 117, 101] then 1 else if l = [104, 105, 100, 100, 101, 110] then 2 else if l = [97, 108, 105, 97, 115] then 3 else if l = [118, 97, 108] then 4 else 0

/-- An import, behind its key. -/
def impR (S : Toks) (i : Nat) : Res Im :=
  if S.small i = false then .err 2 i
  else if S.major (i + 1) = false then .err 2 (i + 1)
  else if S.small (i + 2) = false then .err 2 (i + 2)
  else if keyS S (i + 3) kAs = false then .err 2 (i + 3)
  else if S.small (i + 4) = false then .err 2 (i + 4)
  else .ok ⟨S.T i, digs (S.T (i + 1)).data.toList 0, S.T (i + 2), S.T (i + 4)⟩ (i + 5) 0
/-- All imports, from a token on. -/
def impsR (S : Toks) : Nat → Nat → List Im → Res (List Im)
  | 0, _, _ => .err 99 0
  | f + 1, i, l =>
    if keyS S i kImport = false then .ok l i 0
    else if 20 ≤ l.length then .err 3 i
    else match impR S (i + 1) with
      | .err b j => .err b j
      | .ok x j _ => impsR S f j (l ++ [x])

def typD (k : Int) (s : ByteArray) : Res Ty → Res De
  | .err b j => .err b j
  | .ok t j _ => .ok ⟨k, s, t⟩ j 0
/-- A declaration of a kind, behind its key. -/
def decR (S : Toks) (k : Int) (i : Nat) : Res De :=
  if k = 1 ∨ k = 2 then (if S.great i = false then .err 2 i else .ok ⟨k, S.T i, noT⟩ (i + 1) 0)
  else if k = 3 then (if S.great i = false then .err 2 i else if S.sign (i + 1) [61] = false then .err 2 (i + 1) else typD 3 (S.T i) (atR S (i + 2)))
  else (if S.small i = false then .err 2 i else if S.sign (i + 1) [58] = false then .err 2 (i + 1) else typD 4 (S.T i) (atR S (i + 2)))
/-- The kind of what is declared at a token, or 0. -/
def declAt (S : Toks) (i : Nat) : Int := if i < S.n then declK (S.T i).data.toList else 0
/-- A declaration that stands behind so many. -/
def oneD (S : Toks) (i n : Nat) : Res De :=
  if declAt S i = 0 then .err 2 i
  else if 60 ≤ n then .err 3 i
  else decR S (declAt S i) (i + 1)
/-- All declarations, from a token on. -/
def decsR (S : Toks) : Nat → Nat → List De → Res (List De)
  | 0, _, _ => .err 99 0
  | f + 1, i, l =>
    if S.n ≤ i then .ok l i 0
    else match oneD S i l.length with
      | .err b j => .err b j
      | .ok x j _ => decsR S f j (l ++ [x])
/-- The declarations behind imports, and the module. -/
def restM (S : Toks) (s : ByteArray) : Res (List Im) → Res Mo
  | .err b j => .err b j
  | .ok l j _ => match decsR S 61 j [] with
    | .err b i => .err b i
    | .ok ds i _ => .ok ⟨s, l, ds⟩ i 0
def modR (S : Toks) : Res Mo :=
  if keyS S 0 kModule = false then .err 2 0
  else if S.small 1 = false then .err 2 1
  else restM S (S.T 1) (impsR S 21 2 [])
/-- The module of a text that isn't too long. -/
def parM (s : ByteArray) : Res Mo := if (fin s 0 []).2 < 0 then modR (tkS (fin s 0 []).1) else .err 2 (fin s 0 []).2.toNat
theorem parM_yes {s : ByteArray} {ts : List Tok} (h : fin s 0 [] = (ts, -1)) : parM s = modR (tkS ts) := by unfold parM; rw [h]; rfl
theorem parM_no {s : ByteArray} {k : Nat} (h : fin s 0 [] = ([], (k : Int))) : parM s = .err 2 k := by unfold parM; rw [h]; rw [if_neg (by show ¬ (k : Int) < 0; omega)]; rfl

theorem atR_le {S : Toks} {i j c : Nat} {t : Ty} (h : atR S i = .ok t j c) : i < j := by
  have := (steps S (2 * S.n + 3)).1 1 i 0 (by omega)
  unfold atR at h
  rw [h] at this
  exact this

/-- The key that stands there. -/
theorem key_at {S : Toks} {b i : Nat} (l : List UInt8) : ((kAt S b i == 1) && ((tAt S b i).data.toList == l)) = (decide (b = 0) && keyS S i l) := by
  unfold kAt tAt keyS
  by_cases h : b = 0 ∧ i < S.n
  · rw [if_pos h, if_pos h]; simp [h.1, h.2]
  · rw [if_neg h]
    by_cases hb : b = 0
    · have : ¬ i < S.n := fun e => h ⟨hb, e⟩
      simp [hb, this]
    · simp [hb]
/-- What is declared there. -/
theorem decl_at (S : Toks) (b i : Nat) : declK (tAt S b i).data.toList = if b = 0 then declAt S i else 0 := by
  unfold tAt declAt
  by_cases h : b = 0 ∧ i < S.n
  · rw [if_pos h, if_pos h.1, if_pos h.2]
  · rw [if_neg h]
    by_cases hb : b = 0
    · have : ¬ i < S.n := fun e => h ⟨hb, e⟩
      rw [if_pos hb, if_neg this]; rfl
    · rw [if_neg hb]; rfl
theorem declAt_lt {S : Toks} {i : Nat} (h : declAt S i ≠ 0) : i < S.n := by
  unfold declAt at h
  by_cases hl : i < S.n
  · exact hl
  · rw [if_neg hl] at h; exact absurd rfl h

end Go.Proofs.YtapjhmfbmkckaaaGreatDoor

/- The code's keys: asked for, taken; what a key declares. -/
namespace Go.Proofs.YtapjhmfbmkckaaaGreatDoor
open Go.RowKit
open Go.Sort
open M

end Go.Proofs.YtapjhmfbmkckaaaGreatDoor

/- The code's Read: what expr.At reads, from where the cursor stands. -/
namespace Go.Proofs.YtapjhmfbmkckaaaGreatDoor
open Go.RowKit
open Go.Sort
open M

section
variable {P : Program} {ops : Array Oper} {Q : Exit → Act → World → Prop} {md : Region.Mode} {S : World → Prop} {off : Nat → Bool}
/-- Two may come up now. -/
theorem AnyX.go2 (i j : Nat) {o p : Oper} {k : Nat} {listed : Array Bool} {a : Act} {w : World} (hr : Region.ready md ops listed = [i, j]) (ho : ops[i]? = some o) (hg : o.guard = none) (hp : ops[j]? = some p) (hgp : p.guard = none)
    (h : ∀ K : Act → World → Prop, Hid (∀ a' w', (off i = false → S w → S w') → AnyX P md ops Q S off k (listed.setIfInBounds i true) a' w' → K a' w') → Oper.wp P o a w K Q)
    (h2 : ∀ K : Act → World → Prop, Hid (∀ a' w', (off j = false → S w → S w') → AnyX P md ops Q S off k (listed.setIfInBounds j true) a' w' → K a' w') → Oper.wp P p a w K Q) : AnyX P md ops Q S off (k + 1) listed a w :=
  ⟨fun h0 => (by rw [hr] at h0; cases h0), fun q hq => by
    rw [hr] at hq
    rcases List.mem_cons.1 hq with rfl | hq
    · refine wpOp_step ho fun K hK => ?_
      rw [if_pos (by simp [Region.wanted, hg])]
      exact h K (Lib.hid fun a w hS hW => hK a w ⟨hS, hW⟩)
    · obtain rfl := List.mem_singleton.1 hq
      refine wpOp_step hp fun K hK => ?_
      rw [if_pos (by simp [Region.wanted, hgp])]
      exact h2 K (Lib.hid fun a w hS hW => hK a w ⟨hS, hW⟩)⟩
end

/-- A count that nobody asks for. -/
def cutR {α : Type} : Res α → Res α
  | .ok x i _ => .ok x i 0
  | .err b i => .err b i

theorem cell_alloc {w : World} {o : Obj} {a : Addr} {v : Value} (h : w.cell? a = some v) : (w.alloc o).cell? a = some v := (World.cell?_alloc_lt _ _ _ (World.block_lt_of_cell? w _ h)).trans h
/-- What At leaves, in a box beside it. -/
def RdC (S : Toks) (i : Nat) (wb : World) (s6 s7 s8 : Value) (wx : World) : Prop :=
  Below wb.heap.size wb wx ∧ ∃ g6 : Nat, s6 = .pointer (some ⟨g6, 0, none⟩) ∧ wb.heap.size ≤ g6 ∧
    ((∃ (l : List Value) (t : Ty) (j c : Nat), atR S i = .ok t j c ∧ s7 = .int .i64 j ∧ s8 = .nilIface ∧ wx.heap[g6]? = some (.cells l.toArray 29 (0, 0)) ∧ TyAt (strike (fun b => b < wb.heap.size ∨ b = g6) wx) l t) ∨
     (∃ b j g : Nat, atR S i = .err b j ∧ b ≠ 0 ∧ s7 = .int .i64 0 ∧ s8 = .iface 91 (.pointer (some ⟨g, 0, none⟩)) ∧ SpAt g j b wx))
theorem RdC.afterOk {S : Toks} {i : Nat} {wb w2 w4 : World} {l : List Value} {t : Ty} {j c g6 : Nat} (hb : Below wb.heap.size wb w2) (hg : wb.heap.size ≤ g6) (hok : atR S i = .ok t j c) (hT : TyAt (strike (fun b => b < wb.heap.size ∨ b = g6) w2) l t)
    (hz : w2.heap.size ≤ w4.heap.size) (hrow : w4.heap[g6]? = some (.cells l.toArray 29 (0, 0))) (ho : ∀ b, b < w2.heap.size → b ≠ g6 → w4.heap[b]? = w2.heap[b]?) (h1 : w4.os = w2.os) (h2 : w4.tape = w2.tape) (h3 : w4.output = w2.output) :
    RdC S i wb (.pointer (some ⟨g6, 0, none⟩)) (.int .i64 j) .nilIface w4 :=
  ⟨⟨h1.trans hb.os, h2.trans hb.tape, h3.trans hb.output, Nat.le_trans hb.size hz, fun k hk => (ho k (Nat.lt_of_lt_of_le hk hb.size) (by omega)).trans (hb.block k hk)⟩, g6, rfl, hg, .inl ⟨l, t, j, c, hok, rfl, rfl, hrow, hT.move hz fun b hlt hS => ⟨hS, ho b hlt (fun e => hS (.inr e))⟩⟩⟩
theorem RdC.afterErr {S : Toks} {i : Nat} {wb w2 w4 : World} {b j g g6 : Nat} (hb : Below wb.heap.size wb w2) (hg : wb.heap.size ≤ g6) (herr : atR S i = .err b j) (hb0 : b ≠ 0) (hsp : SpAt g j b w2)
    (hz : w2.heap.size ≤ w4.heap.size) (hgg : g ≠ g6) (ho : ∀ b, b < w2.heap.size → b ≠ g6 → w4.heap[b]? = w2.heap[b]?) (h1 : w4.os = w2.os) (h2 : w4.tape = w2.tape) (h3 : w4.output = w2.output) :
    RdC S i wb (.pointer (some ⟨g6, 0, none⟩)) (.int .i64 0) (.iface 91 (.pointer (some ⟨g, 0, none⟩))) w4 :=
  ⟨⟨h1.trans hb.os, h2.trans hb.tape, h3.trans hb.output, Nat.le_trans hb.size hz, fun k hk => (ho k (Nat.lt_of_lt_of_le hk hb.size) (by omega)).trans (hb.block k hk)⟩, g6, rfl, hg, .inr ⟨b, j, g, herr, hb0, rfl, rfl, (ho g (Array.getElem?_eq_some_iff.1 hsp).1 hgg).trans hsp⟩⟩

end Go.Proofs.YtapjhmfbmkckaaaGreatDoor

/- Rows of structs in new memory, while they grow, whatever their elements are; an import's cells, a declaration's. -/
namespace Go.Proofs.YtapjhmfbmkckaaaGreatDoor
open Go.RowKit
open Go.Sort
open M

/-- How cells read as something; what that rests on lies in blocks that aren't struck out. -/
structure Reads (α : Type) where
  k : Nat
  T : TypeId
  E : World → List Value → α → Prop
  move : ∀ (S S' : Nat → Prop) (w w' : World) (l : List Value) (x : α), E (strike S w) l x → w.heap.size ≤ w'.heap.size → (∀ b, b < w.heap.size → ¬ S b → ¬ S' b ∧ w'.heap[b]? = w.heap[b]?) → E (strike S' w') l x
  keep : ∀ (w w' : World) (l : List Value) (x : α), E w l x → Below w.heap.size w w' → E w' l x
  free : ∀ (S : Nat → Prop) (w : World) (l : List Value) (x : α), E (strike S w) l x → E w l x
  len : ∀ (w : World) (l : List Value) (x : α), E w l x → l.length = k

/-- A slice that holds these. -/
def RowIn {α : Type} (R : Reads α) (w : World) (A : Option Addr) (xs : List α) : Prop :=
  ∀ i x, xs[i]? = some x → ∃ (g o : Nat) (l : List Value), A = some ⟨g, o, none⟩ ∧ g < w.heap.size ∧ (∀ j v, l[j]? = some v → w.cell? ⟨g, o + i * R.k + j, none⟩ = some v) ∧ R.E w l x
theorem RowIn.below {α : Type} {R : Reads α} {w w' : World} {A : Option Addr} {xs : List α} (h : RowIn R w A xs) (hb : Below w.heap.size w w') : RowIn R w' A xs := fun i x hx => by
  obtain ⟨g, o, l, hA, hg, hc, hE⟩ := h i x hx
  exact ⟨g, o, l, hA, Nat.lt_of_lt_of_le hg hb.size, fun j v hv => (hb.cell (p := ⟨g, _, none⟩) hg).trans (hc j v hv), R.keep _ _ _ _ hE hb⟩

/-- Some that grow, in a block of their own, from 'lo' on. -/
structure Row {α : Type} (R : Reads α) (lo : Nat) (xs : List α) (A : Option Addr) (c : Nat) (w : World) : Prop where
  cells : ∃ C : List (List Value), C.length = xs.length ∧ w.ownsRow lo R.T R.k (.slice A xs.length c) xs.length C.flatten ∧
    ∀ (i : Nat) (l : List Value) (x : α), C[i]? = some l → xs[i]? = some x → R.E (strike (fun b => b < lo ∨ (Value.slice A xs.length c).ownBlock = some b) w) l x
theorem Row.start {α : Type} (R : Reads α) (lo : Nat) (w : World) : Row R lo [] none 0 w := ⟨[], rfl, World.ownsRow_nil _ _ _ _, fun i l x h => by simp at h⟩
theorem Row.keep {α : Type} {R : Reads α} {lo : Nat} {xs : List α} {A : Option Addr} {c : Nat} {w w' : World} (h : Row R lo xs A c w) (hz : w.heap.size ≤ w'.heap.size) (hb : ∀ b, lo ≤ b → b < w.heap.size → w'.heap[b]? = w.heap[b]?) : Row R lo xs A c w' := by
  obtain ⟨C, h1, h3, h4⟩ := h.cells
  exact ⟨C, h1, own_from h3 hb, fun i l x hl hx => R.move _ _ _ _ _ _ (h4 i l x hl hx) hz fun b hlt hS => ⟨hS, hb b (by
    rcases Nat.lt_or_ge b lo with h | h
    · exact absurd (.inl h) hS
    · exact h) hlt⟩⟩
theorem Row.lt {α : Type} {R : Reads α} {lo : Nat} {xs : List α} {A : Option Addr} {c : Nat} {w : World} (h : Row R lo xs A c w) {b : Nat} (e : (Value.slice A xs.length c).ownBlock = some b) : lo ≤ b ∧ b < w.heap.size := by
  obtain ⟨C, h1, h3, h4⟩ := h.cells
  exact h3.lt b e
/-- One more. -/
theorem Row.more {α : Type} {R : Reads α} {lo g cap c : Nat} {xs : List α} {A : Option Addr} {B : Nat} {w1 w3 : World} {o : Obj} {l : List Value} {x : α} {C : List (List Value)}
    (h : Row R lo xs A c w1) (hlo : lo ≤ B) (hwo : ∀ b, (Value.slice A xs.length c).ownBlock = some b → b < B)
    (hC1 : C.length = xs.length) (hC4 : ∀ (i : Nat) (l : List Value) (x : α), C[i]? = some l → xs[i]? = some x → R.E (strike (fun b => b < lo ∨ (Value.slice A xs.length c).ownBlock = some b) w1) l x)
    (hE : R.E (strike (· < B) w1) l x) (hown : w3.ownsRow lo R.T R.k (.slice (some ⟨g, 0, none⟩) (xs.length + 1) cap) (xs.length + 1) (C.flatten ++ l)) (hgrow : (w1.alloc o).grownBy w3 (Value.slice A xs.length c).ownBlock)
    (hat : (Value.slice A xs.length c).ownBlock = some g ∨ g = (w1.alloc o).heap.size) :
    Row R lo (xs ++ [x]) (some ⟨g, 0, none⟩) cap w3 ∧ (∀ b, (Value.slice A xs.length c).ownBlock ≠ some b → b < w1.heap.size → w3.heap[b]? = w1.heap[b]?) ∧ w1.heap.size ≤ w3.heap.size := by
  have hsz : (w1.alloc o).heap.size = w1.heap.size + 1 := by simp
  have hsz3 := hgrow.size
  have hold : ∀ b, b < w1.heap.size → (Value.slice A xs.length c).ownBlock ≠ some b → w3.heap[b]? = w1.heap[b]? := fun b hb hne => by
    rw [hgrow.block b (by omega) (fun e => hne e.symm)]
    exact Lib.alloc_old w1 o b hb
  have mv : ∀ l x, R.E (strike (fun b => b < lo ∨ (Value.slice A xs.length c).ownBlock = some b) w1) l x → R.E (strike (fun b => b < lo ∨ (Value.slice (some ⟨g, 0, none⟩) (xs ++ [x]).length cap).ownBlock = some b) w3) l x := fun l x hT => by
    refine R.move _ _ _ _ _ _ hT (by omega) fun b hb hS => ⟨?_, hold b hb (fun e => hS (.inr e))⟩
    rintro (e | e)
    · exact hS (.inl e)
    · simp [Value.ownBlock] at e
      subst e
      rcases hat with e | e
      · exact hS (.inr e)
      · omega
  have hT : R.E (strike (fun b => b < lo ∨ (Value.slice A xs.length c).ownBlock = some b) w1) l x := R.move _ _ _ _ _ _ hE (Nat.le_refl _) fun b hlt hS => ⟨by
    rintro (e | e)
    · omega
    · have := hwo b e; omega, rfl⟩
  refine ⟨⟨C ++ [l], by simp [hC1], ?_, fun i y u hy hu => ?_⟩, fun b hb hlt => hold b hlt hb, by omega⟩
  · rw [List.length_append]
    simpa using hown
  · rcases Nat.lt_or_ge i xs.length with hi | hi
    · rw [List.getElem?_append_left (by omega)] at hy hu
      have := mv y u (hC4 i y u hy hu)
      simpa [Value.ownBlock] using this
    · have hi' := (List.getElem?_eq_some_iff.1 hy).1
      have : i = xs.length := by simp [hC1] at hi'; omega
      subst this
      rw [List.getElem?_append_right (by omega)] at hy hu
      simp [hC1] at hy
      simp at hu
      rw [← hy, ← hu]
      have := mv l x hT
      simpa [Value.ownBlock] using this
theorem flatk_at {k : Nat} : ∀ (C : List (List Value)), (∀ l, l ∈ C → l.length = k) → ∀ (i q : Nat) (l : List Value), C[i]? = some l → q < k → C.flatten[i * k + q]? = l[q]?
  | [], _, i, q, l, h, _ => by simp at h
  | a :: r, hC, i, q, l, h, hq => by
    have ha : a.length = k := hC a List.mem_cons_self
    rw [List.flatten_cons]
    cases i with
    | zero =>
      simp at h; subst h
      rw [List.getElem?_append_left (by omega)]
      congr 1; omega
    | succ i =>
      rw [List.getElem?_append_right (by rw [ha, Nat.succ_mul]; omega), ha, show (i + 1) * k + q - k = i * k + q by rw [Nat.succ_mul]; omega]
      exact flatk_at r (fun l hl => hC l (List.mem_cons_of_mem _ hl)) i q l (by simpa using h) hq
/-- At the end: a slice that holds them, in new memory alone. -/
theorem Row.done {α : Type} {R : Reads α} {lo : Nat} {xs : List α} {A : Option Addr} {c m : Nat} {w : World} (h : Row R lo xs A c w) (hm : m ≤ lo) : RowIn R (strike (· < m) w) A xs := by
  intro i x hx
  obtain ⟨C, h1, h3, h4⟩ := h.cells
  have hi := (List.getElem?_eq_some_iff.1 hx).1
  have hl : C[i]? = some C[i] := List.getElem?_eq_getElem (by omega)
  have hall : ∀ l, l ∈ C → l.length = R.k := fun l hl => by
    obtain ⟨j, hj⟩ := List.mem_iff_getElem?.1 hl
    have hj' := (List.getElem?_eq_some_iff.1 hj).1
    exact R.len _ _ _ (h4 j l xs[j] hj (List.getElem?_eq_getElem (by omega)))
  have hE := h4 i _ x hl hx
  rcases h3.2 with ⟨e, -⟩ | ⟨g, cap, cur, hv, hB, hg, -, -, hcl, htake⟩
  · cases A with
    | none => simp at e; simp [e.1] at hi
    | some a => simp at e
  · simp at hv
    obtain ⟨rfl, -⟩ := hv
    refine ⟨g, 0, C[i], rfl, ?_, fun j v hv => strike_cell.2 ⟨by omega, ?_⟩, R.move _ _ _ _ _ _ hE (Nat.le_refl _) fun b hlt hS => ⟨fun e => hS (.inl (by omega)), rfl⟩⟩
    · rw [strike_size]; exact (Array.getElem?_eq_some_iff.1 hg).1
    · have hj := (List.getElem?_eq_some_iff.1 hv).1
      rw [hall _ (List.getElem_mem (by omega))] at hj
      have hf := flatk_at C hall i j _ hl hj
      rw [Lib.cell_of_heap hg, ← Array.getElem?_toList]
      have e2 : (cur.toList.take (xs.length * R.k))[i * R.k + j]? = C[i][j]? := by rw [htake, hf]
      rw [List.getElem?_take] at e2
      split at e2
      · rw [show 0 + i * R.k + j = i * R.k + j by omega, e2]; exact hv
      · rename_i hn
        have : (i + 1) * R.k ≤ xs.length * R.k := Nat.mul_le_mul_right _ hi
        rw [Nat.succ_mul] at this
        omega

/-- An import's cells. -/
def imL (x : Im) : List Value := [.string x.pkg, .int .i64 x.major, .string x.mod, .string x.asn]
def imE (_ : World) (l : List Value) (x : Im) : Prop := l = imL x ∧ x.pkg.size ≤ 9223372036854775807 ∧ x.mod.size ≤ 9223372036854775807 ∧ x.asn.size ≤ 9223372036854775807
def imR : Reads Im := ⟨4, 55, imE, fun _ _ _ _ _ _ h _ _ => h, fun _ _ _ _ h _ => h, fun _ _ _ _ h => h, fun _ l x h => by rw [h.1]; rfl⟩
/-- A declaration's cells. -/
def deE (w : World) (l : List Value) (d : De) : Prop := d.name.size ≤ 9223372036854775807 ∧ ∃ l7 : List Value, l = .int .i64 d.kind :: .string d.name :: l7 ∧ TyAt w l7 d.typ
theorem TyAt.len {w : World} {l : List Value} {t : Ty} (h : TyAt w l t) : l.length = 7 := by
  obtain ⟨_, _, _, _, rfl, -⟩ := h.parts
  rfl
def deR : Reads De := ⟨9, 45, deE, fun _ _ _ _ _ _ ⟨hs, l7, e, h⟩ hz hb => ⟨hs, l7, e, h.move hz hb⟩, fun _ _ _ _ ⟨hs, l7, e, h⟩ hb => ⟨hs, l7, e, h.keep hb⟩, fun _ _ _ _ ⟨hs, l7, e, h⟩ => ⟨hs, l7, e, h.free⟩, fun _ l x ⟨_, l7, e, h⟩ => by rw [e]; simp [h.len]⟩
/-- A module's cells. -/
def MoAt (w : World) (l : List Value) (m : Mo) : Prop :=
  ∃ (Ai : Option Addr) (ci : Nat) (Ad : Option Addr) (cd : Nat), l = [.string m.name, .slice Ai m.imps.length ci, .slice Ad m.decs.length cd] ∧ m.name.size ≤ 9223372036854775807 ∧ m.imps.length ≤ 9223372036854775807 ∧ m.decs.length ≤ 9223372036854775807 ∧ RowIn imR w Ai m.imps ∧ RowIn deR w Ad m.decs
theorem MoAt.below {w w' : World} {l : List Value} {m : Mo} (h : MoAt w l m) (hb : Below w.heap.size w w') : MoAt w' l m := by
  obtain ⟨Ai, ci, Ad, cd, e, h1, h2, h3, h4, h5⟩ := h
  exact ⟨Ai, ci, Ad, cd, e, h1, h2, h3, h4.below hb, h5.below hb⟩
theorem RowIn.move {α : Type} {R : Reads α} {S S' : Nat → Prop} {w w' : World} {A : Option Addr} {xs : List α} (h : RowIn R (strike S w) A xs) (hz : w.heap.size ≤ w'.heap.size) (hb : ∀ b, b < w.heap.size → ¬ S b → ¬ S' b ∧ w'.heap[b]? = w.heap[b]?) : RowIn R (strike S' w') A xs := fun i x hx => by
  obtain ⟨g, o, l, hA, hg, hc, hE⟩ := h i x hx
  refine ⟨g, o, l, hA, by rw [strike_size] at hg ⊢; omega, fun j v hv => ?_, R.move _ _ _ _ _ _ hE hz hb⟩
  obtain ⟨h1, h2⟩ := strike_cell.1 (hc j v hv)
  obtain ⟨h3, h4⟩ := hb g (World.block_lt_of_cell? _ _ h2) h1
  exact strike_cell.2 ⟨h3, by rw [World.cell?_of_block (w := w) (a := ⟨g, _, none⟩) h4]; exact h2⟩
theorem RowIn.free {α : Type} {R : Reads α} {S : Nat → Prop} {w : World} {A : Option Addr} {xs : List α} (h : RowIn R (strike S w) A xs) : RowIn R w A xs := fun i x hx => by
  obtain ⟨g, o, l, hA, hg, hc, hE⟩ := h i x hx
  exact ⟨g, o, l, hA, by rw [strike_size] at hg; exact hg, fun j v hv => (strike_cell.1 (hc j v hv)).2, R.free _ _ _ _ hE⟩
theorem MoAt.move {S S' : Nat → Prop} {w w' : World} {l : List Value} {m : Mo} (h : MoAt (strike S w) l m) (hz : w.heap.size ≤ w'.heap.size) (hb : ∀ b, b < w.heap.size → ¬ S b → ¬ S' b ∧ w'.heap[b]? = w.heap[b]?) : MoAt (strike S' w') l m := by
  obtain ⟨Ai, ci, Ad, cd, e, h1, h2, h3, h4, h5⟩ := h
  exact ⟨Ai, ci, Ad, cd, e, h1, h2, h3, h4.move hz hb, h5.move hz hb⟩
theorem MoAt.free {S : Nat → Prop} {w : World} {l : List Value} {m : Mo} (h : MoAt (strike S w) l m) : MoAt w l m := by
  obtain ⟨Ai, ci, Ad, cd, e, h1, h2, h3, h4, h5⟩ := h
  exact ⟨Ai, ci, Ad, cd, e, h1, h2, h3, h4.free, h5.free⟩

end Go.Proofs.YtapjhmfbmkckaaaGreatDoor

/- A module handed in: what its cells read as. -/
namespace Go.Proofs.YtapjhmfbmkckaaaGreatDoor
open Go Go.ChangeShapes Go.WideShapes Go.ChangeAt Go.RowKit Go.Joins Go.Deep
open M

section
variable {H : Type} {enc : TypeId × Value → H} {w : World} {base : Nat} {sp : Nat → Bool} {held : Bool}

/-- A slice whose elements read as these. -/
theorem open_rows {α : Type} (R : Reads α) (st : TypeId) (a0 : α) (ht : Tryz.prog.underlying st = some (.slice R.T)) (hk : Tryz.prog.cellsOf R.T = R.k) (hpos : 0 < R.k)
    (hE : ∀ (n : Nat) (cs : List Value) (x : DataW H × List MemPlace), DataW.trod enc Tryz.prog w base sp held n R.T cs = some x → ∃ a, R.E w cs a)
    {fuel : Nat} {v : Value} {x : DataW H × List MemPlace} (h : DataW.trod enc Tryz.prog w base sp held fuel st [v] = some x) : ∃ (A : Option Addr) (c : Nat) (l : List α), v = .slice A l.length c ∧ l.length ≤ maxLen ∧ RowIn R w A l := by
  rcases DataW.trod_slice ht h with ⟨hc, -⟩ | ⟨a', len, cap, elems, rest, n', hn', hc, -, -, hl, hm, hlen', hel, -, -⟩
  · obtain rfl := List.head_eq_of_cons_eq hc
    exact ⟨none, 0, [], rfl, Nat.zero_le _, fun i x hx => by simp at hx⟩
  · obtain rfl := List.head_eq_of_cons_eq hc
    rw [hk] at hel
    have hall : ∀ i, ∃ q : α × List Value, i < len → w.cells? base (a'.add (i * R.k)) R.k = some q.2 ∧ R.E w q.2 q.1 := by
      intro i
      by_cases hi : i < len
      · have h1 := hel i hi
        rw [List.getElem?_eq_getElem (by rw [hlen']; exact hi)] at h1
        obtain ⟨cs', h2, h3⟩ := Option.bind_eq_some_iff.1 h1
        obtain ⟨t, ht⟩ := hE n' cs' _ h3
        exact ⟨(t, cs'), fun _ => ⟨h2, ht⟩⟩
      · exact ⟨(a0, []), fun h => absurd h hi⟩
    obtain ⟨F, hF⟩ := Classical.axiomOfChoice hall
    clear hall hel hE
    have hsome : ∀ i t, ((List.range len).map fun i => (F i).1)[i]? = some t → i < len ∧ t = (F i).1 := by
      intro i t ht
      rw [List.getElem?_map] at ht
      rcases Nat.lt_or_ge i len with hi | hi
      · rw [List.getElem?_range hi] at ht
        exact ⟨hi, (Option.some.inj ht).symm⟩
      · rw [List.getElem?_eq_none (by simpa using hi)] at ht
        cases ht
    have hle : ((List.range len).map fun i => (F i).1).length = len := by simp
    refine ⟨some a', cap, (List.range len).map fun i => (F i).1, by rw [hle], by rw [hle]; exact Nat.le_trans hl hm, fun i t ht => ?_⟩
    obtain ⟨hi, rfl⟩ := hsome i t ht
    obtain ⟨b, o, spot⟩ := a'
    have hat := (World.cells?_some (hF i hi).1).2.2
    have hlk := R.len _ _ _ (hF i hi).2
    have hspot : spot = none := by
      have hc := (World.cells?_some (hF 0 (by omega)).1).2.2 0 hpos
      rw [List.getElem?_eq_getElem (by rw [R.len _ _ _ (hF 0 (by omega)).2]; exact hpos)] at hc
      have := World.cell?_spot hc
      simpa [Addr.add] using this
    subst hspot
    have hcell : ∀ j v, (F i).2[j]? = some v → w.cell? ⟨b, o + i * R.k + j, none⟩ = some v := by
      intro j v hv
      have hj : j < R.k := by
        have := (List.getElem?_eq_some_iff.1 hv).1
        rw [hlk] at this; exact this
      have := hat j hj
      rw [WideShapes.add_plain, WideShapes.add_plain] at this
      rw [this]; exact hv
    exact ⟨b, o, (F i).2, rfl, World.block_lt_of_cell? w _ (hcell 0 _ (List.getElem?_eq_getElem (by rw [hlk]; exact hpos))), hcell, (hF i hi).2⟩

theorem impCells : Tryz.prog.cellsOf 55 = 4 := by kernel_rfl
theorem decCells : Tryz.prog.cellsOf 45 = 9 := by kernel_rfl
theorem modCells : Tryz.prog.cellsOf 25 = 3 := by kernel_rfl
theorem modCellsI : Tryz.prog.cellsOf 22 = 1 := by kernel_rfl
theorem modCellsD : Tryz.prog.cellsOf 23 = 1 := by kernel_rfl
theorem list4 {α : Type} : ∀ l : List α, l.length = 4 → ∃ a b c d, l = [a, b, c, d]
  | [a, b, c, d], _ => ⟨a, b, c, d, rfl⟩
  | [], h => by simp at h
  | [_], h => by simp at h
  | [_, _], h => by simp at h
  | [_, _, _], h => by simp at h
  | _ :: _ :: _ :: _ :: _ :: _, h => by simp at h
theorem list9 {α : Type} : ∀ l : List α, l.length = 9 → ∃ a b r, l = a :: b :: r ∧ r.length = 7
  | a :: b :: r, h => ⟨a, b, r, rfl, by simpa using h⟩
  | [], h => by simp at h
  | [_], h => by simp at h
theorem list3' {α : Type} : ∀ l : List α, l.length = 3 → ∃ a b c, l = [a, b, c]
  | [a, b, c], _ => ⟨a, b, c, rfl⟩
  | [], h => by simp at h
  | [_], h => by simp at h
  | [_, _], h => by simp at h
  | _ :: _ :: _ :: _ :: _, h => by simp at h

theorem open_im (n : Nat) (cs : List Value) (x : DataW H × List MemPlace) (h : DataW.trod enc Tryz.prog w base sp held n 55 cs = some x) : ∃ a, imE w cs a := by
  obtain ⟨xs, n, hfuel, -, hlen, hxl, hf⟩ := DataW.trod_struct Tryz.underlying55 h
  rw [impCells] at hlen
  obtain ⟨c0, c1, c2, c3, rfl⟩ := list4 cs hlen
  have q : ∀ j, j < 4 → ∃ y, xs[j]? = some y := fun j hj => ⟨_, List.getElem?_eq_getElem (by rw [hxl]; exact hj)⟩
  obtain ⟨y0, e0⟩ := q 0 (by omega); obtain ⟨y1, e1⟩ := q 1 (by omega); obtain ⟨y2, e2⟩ := q 2 (by omega); obtain ⟨y3, e3⟩ := q 3 (by omega)
  have g0 : DataW.trod enc Tryz.prog w base sp held n 9 (([c0, c1, c2, c3].drop 0).take (Tryz.prog.cellsOf 9)) = some y0 := (hf 0 _ rfl).trans e0
  have g1 : DataW.trod enc Tryz.prog w base sp held n 3 (([c0, c1, c2, c3].drop 1).take (Tryz.prog.cellsOf 3)) = some y1 := (hf 1 _ rfl).trans e1
  have g2 : DataW.trod enc Tryz.prog w base sp held n 9 (([c0, c1, c2, c3].drop 2).take (Tryz.prog.cellsOf 9)) = some y2 := (hf 2 _ rfl).trans e2
  have g3 : DataW.trod enc Tryz.prog w base sp held n 9 (([c0, c1, c2, c3].drop 3).take (Tryz.prog.cellsOf 9)) = some y3 := (hf 3 _ rfl).trans e3
  rw [tyCellsStr] at g0 g2 g3
  rw [tyCellsInt] at g1
  obtain ⟨p, k0, -, z0⟩ := DataW.trod_string Tryz.underlying9 g0
  obtain ⟨m, k1, -, -⟩ := DataW.trod_int Tryz.underlying3 g1
  obtain ⟨d, k2, -, z2⟩ := DataW.trod_string Tryz.underlying9 g2
  obtain ⟨a, k3, -, z3⟩ := DataW.trod_string Tryz.underlying9 g3
  simp at k0 k1 k2 k3
  subst k0 k1 k2 k3
  unfold maxLen at z0 z2 z3
  exact ⟨⟨p, m, d, a⟩, rfl, z0, z2, z3⟩
theorem open_de (n : Nat) (cs : List Value) (x : DataW H × List MemPlace) (h : DataW.trod enc Tryz.prog w base sp held n 45 cs = some x) : ∃ a, deE w cs a := by
  obtain ⟨xs, n, hfuel, -, hlen, hxl, hf⟩ := DataW.trod_struct Tryz.underlying45 h
  rw [decCells] at hlen
  obtain ⟨c0, c1, r, rfl, hr⟩ := list9 cs hlen
  have q : ∀ j, j < 3 → ∃ y, xs[j]? = some y := fun j hj => ⟨_, List.getElem?_eq_getElem (by rw [hxl]; exact hj)⟩
  obtain ⟨y0, e0⟩ := q 0 (by omega); obtain ⟨y1, e1⟩ := q 1 (by omega); obtain ⟨y2, e2⟩ := q 2 (by omega)
  have g0 : DataW.trod enc Tryz.prog w base sp held n 3 (((c0 :: c1 :: r).drop 0).take (Tryz.prog.cellsOf 3)) = some y0 := (hf 0 _ rfl).trans e0
  have g1 : DataW.trod enc Tryz.prog w base sp held n 9 (((c0 :: c1 :: r).drop 1).take (Tryz.prog.cellsOf 9)) = some y1 := (hf 1 _ rfl).trans e1
  have g2 : DataW.trod enc Tryz.prog w base sp held n 29 (((c0 :: c1 :: r).drop 2).take (Tryz.prog.cellsOf 29)) = some y2 := (hf 2 _ rfl).trans e2
  rw [tyCellsInt] at g0
  rw [tyCellsStr] at g1
  rw [tyCells, show ((c0 :: c1 :: r).drop 2).take 7 = r by simp [← hr]] at g2
  obtain ⟨k, k0, -, -⟩ := DataW.trod_int Tryz.underlying3 g0
  obtain ⟨s, k1, -, z1⟩ := DataW.trod_string Tryz.underlying9 g1
  obtain ⟨t, ht⟩ := open_tree _ _ _ g2
  simp at k0 k1
  subst k0 k1
  unfold maxLen at z1
  exact ⟨⟨k, s, t⟩, z1, r, rfl, ht⟩

set_option maxRecDepth 100000 in
/-- A module handed in. -/
theorem open_module {r : Go.Reach} {b0 : Nat} {v : Value} {d : DataW H} {p : List MemPlace} (hv : Value.okWide Tryz.prog w r b0 25 v) (h : DataW.Trod enc Tryz.prog w base sp held 25 v d p) : ∃ l m, v = .agg l.toArray ∧ MoAt w l m := by
  obtain ⟨cs, rfl, -⟩ := okWide_struct Tryz.underlying25 hv
  obtain ⟨fuel, hf⟩ := h
  obtain ⟨cl⟩ := cs
  obtain ⟨xs, n, hfuel, -, hlen, hxl, hf⟩ := DataW.trod_struct Tryz.underlying25 hf
  rw [modCells] at hlen
  obtain ⟨c0, c1, c2, hcl⟩ := list3' cl hlen
  subst hcl
  have q : ∀ j, j < 3 → ∃ y, xs[j]? = some y := fun j hj => ⟨_, List.getElem?_eq_getElem (by rw [hxl]; exact hj)⟩
  obtain ⟨y0, e0⟩ := q 0 (by omega); obtain ⟨y1, e1⟩ := q 1 (by omega); obtain ⟨y2, e2⟩ := q 2 (by omega)
  have g0 : DataW.trod enc Tryz.prog w base sp held n 9 (([c0, c1, c2].drop 0).take (Tryz.prog.cellsOf 9)) = some y0 := (hf 0 _ rfl).trans e0
  have g1 : DataW.trod enc Tryz.prog w base sp held n 22 (([c0, c1, c2].drop 1).take (Tryz.prog.cellsOf 22)) = some y1 := (hf 1 _ rfl).trans e1
  have g2 : DataW.trod enc Tryz.prog w base sp held n 23 (([c0, c1, c2].drop 2).take (Tryz.prog.cellsOf 23)) = some y2 := (hf 2 _ rfl).trans e2
  rw [tyCellsStr] at g0
  rw [modCellsI] at g1
  rw [modCellsD] at g2
  have h1 : DataW.trod enc Tryz.prog w base sp held n 22 [c1] = some y1 := g1
  have h2 : DataW.trod enc Tryz.prog w base sp held n 23 [c2] = some y2 := g2
  obtain ⟨s, k0, -, z0⟩ := DataW.trod_string Tryz.underlying9 g0
  simp at k0
  subst k0
  obtain ⟨Ai, ci, li, rfl, hli, hI⟩ := open_rows imR 22 ⟨⟨#[]⟩, 0, ⟨#[]⟩, ⟨#[]⟩⟩ Tryz.underlying22 impCells (by decide) open_im h1
  obtain ⟨Ad, cd, ld, rfl, hld, hD⟩ := open_rows deR 23 ⟨0, ⟨#[]⟩, noT⟩ Tryz.underlying23 decCells (by decide) open_de h2
  unfold maxLen at z0 hli hld
  exact ⟨_, ⟨s, li, ld⟩, rfl, Ai, ci, Ad, cd, rfl, z0, hli, hld, hI, hD⟩
end
end Go.Proofs.YtapjhmfbmkckaaaGreatDoor

/- The code's imports: one, and all that stand there. -/
namespace Go.Proofs.YtapjhmfbmkckaaaGreatDoor
open Go.RowKit
open Go.Sort
open M

theorem impSize : (Tryz.prog.info? 55).map (·.size) = some 4 := by kernel_rfl
theorem impOne {a c d : ByteArray} {b : Int} : (#[.string a, .int .i64 b, .string c, .string d] : Array Value).all (·.oneCell') = true := Array.all_eq_true_iff_forall_mem.2 (fun v hv => by simp at hv; rcases hv with rfl | rfl | rfl | rfl <;> rfl)
theorem imp_info : (Tryz.prog.info? 55).map (fun i => (i.zero, i.size, i.bytes)) = some (some (.agg #[.string ⟨#[]⟩, .int .i64 0, .string ⟨#[]⟩, .string ⟨#[]⟩]), 4, 56) := by kernel_rfl
theorem cell4 {w : World} {b : Nat} {v0 v1 v2 v3 : Value} {T : TypeId} {fr : Nat × Nat} (h : w.heap[b]? = some (.cells #[v0, v1, v2, v3] T fr)) : ∀ i v, ([v0, v1, v2, v3] : List Value)[i]? = some v → w.cell? ⟨b, i, none⟩ = some v := fun i v hv => by
  rw [Lib.cell_of_heap h, ← hv, ← List.getElem?_toArray]

theorem imp_chain {S : Toks} {i b : Nat} {s1 s3 s5 : ByteArray} {v : Int} {i1 b1 i2 b2 i3 b3 i5 b5 : Nat}
    (h1 : NameOut S (decide (i < S.n) && smallK (S.K i) (S.T i)) i b s1 i1 b1) (h2 : NumOut S i1 b1 v i2 b2) (h3 : NameOut S (decide (i2 < S.n) && smallK (S.K i2) (S.T i2)) i2 b2 s3 i3 b3)
    (h5 : NameOut S (decide (psI b3 (keyS S i3 kAs) i3 < S.n) && smallK (S.K (psI b3 (keyS S i3 kAs) i3)) (S.T (psI b3 (keyS S i3 kAs) i3))) (psI b3 (keyS S i3 kAs) i3) (psB b3 (keyS S i3 kAs)) s5 i5 b5) :
    badR b5 i5 (.ok (⟨s1, v, s3, s5⟩ : Im) i5 0) = badR b i (impR S i) := by
  have a := nameOut_res h5 (fun s i => Res.ok (⟨s1, v, s3, s⟩ : Im) i 0)
  rw [small_k] at a
  have d := sign_res (keyS S i3 kAs) b3 i3 (fun j => if S.small j = false then Res.err 2 j else .ok (⟨s1, v, s3, S.T j⟩ : Im) (j + 1) 0)
  have e := nameOut_res h3 (fun s j => if keyS S j kAs = false then Res.err 2 j else if S.small (j + 1) = false then .err 2 (j + 1) else .ok (⟨s1, v, s, S.T (j + 1)⟩ : Im) (j + 1 + 1) 0)
  rw [small_k] at e
  have f := numOut_res h2 (fun v j => if S.small j = false then Res.err 2 j else if keyS S (j + 1) kAs = false then Res.err 2 (j + 1) else if S.small (j + 1 + 1) = false then .err 2 (j + 1 + 1) else .ok (⟨s1, v, S.T j, S.T (j + 1 + 1)⟩ : Im) (j + 1 + 1 + 1) 0)
  have g := nameOut_res h1 (fun s j => if S.major j = false then Res.err 2 j else if S.small (j + 1) = false then Res.err 2 (j + 1) else if keyS S (j + 1 + 1) kAs = false then Res.err 2 (j + 1 + 1) else if S.small (j + 1 + 1 + 1) = false then .err 2 (j + 1 + 1 + 1) else .ok (⟨s, digs (S.T j).data.toList 0, S.T (j + 1), S.T (j + 1 + 1 + 1)⟩ : Im) (j + 1 + 1 + 1 + 1) 0)
  rw [small_k] at g
  exact a.trans (d.trans (e.trans (f.trans g)))

end Go.Proofs.YtapjhmfbmkckaaaGreatDoor

/- The code's imports, all that stand there. -/
namespace Go.Proofs.YtapjhmfbmkckaaaGreatDoor
open Go.RowKit
open Go.Sort
open M

theorem impR_ok {S : Toks} {i j c : Nat} {x : Im} (h : impR S i = .ok x j c) : j = i + 5 := by
  unfold impR at h
  split at h
  · cases h
  split at h
  · cases h
  split at h
  · cases h
  split at h
  · cases h
  split at h
  · cases h
  · cases h; rfl
theorem imps_no {S : Toks} {b i n : Nat} {xs : List Im} (hn : xs.length ≤ 20 ∨ b ≠ 0) (h : (decide (b = 0) && keyS S i kImport) = false) : badR b i (impsR S (21 - xs.length) i xs) = badR b i (.ok xs i 0) := by
  by_cases hb : b = 0
  · subst hb
    rw [badR_0, badR_0, show 21 - xs.length = (20 - xs.length) + 1 by omega]
    unfold impsR
    rw [if_pos (by simpa using h)]
  · rw [badR_ne _ _ hb, badR_ne _ _ hb]
theorem imps_yes {S : Toks} {i i5 b5 : Nat} {xs : List Im} {x : Im} (hn : xs.length ≤ 20) (hk : keyS S i kImport = true)
    (h : badR b5 i5 (.ok x i5 0) = badR (mustB 0 (decide ((xs.length : Int) < 20)) 3) (upI (mustB 0 (decide ((xs.length : Int) < 20)) 3) i) (impR S (upI (mustB 0 (decide ((xs.length : Int) < 20)) 3) i))) :
    impsR S (21 - xs.length) i xs = badR b5 i5 (impsR S (21 - (xs ++ [x]).length) i5 (xs ++ [x])) ∧ (b5 = 0 → xs.length < 20 ∧ i < i5) := by
  rw [show 21 - xs.length = (20 - xs.length) + 1 by omega]
  have e0 : ∀ f, impsR S (f + 1) i xs = if keyS S i kImport = false then .ok xs i 0 else if 20 ≤ xs.length then .err 3 i else match impR S (i + 1) with
      | .err b j => .err b j
      | .ok x j _ => impsR S f j (xs ++ [x]) := fun f => rfl
  rw [e0, if_neg (by rw [hk]; decide)]
  have e1 : (xs ++ [x]).length = xs.length + 1 := by simp
  rw [e1, show 21 - (xs.length + 1) = 20 - xs.length by omega]
  by_cases hl : xs.length < 20
  · have hd : decide ((xs.length : Int) < 20) = true := by simp; omega
    rw [hd, mustB_yes, upI_0, badR_0] at h
    rw [if_neg (by omega), ← h]
    by_cases hb : b5 = 0
    · subst hb
      have h6 := impR_ok h.symm
      exact ⟨rfl, fun _ => ⟨hl, by omega⟩⟩
    · rw [badR_ne _ _ hb, badR_ne _ _ hb]
      exact ⟨rfl, fun e => absurd e hb⟩
  · have hd : decide ((xs.length : Int) < 20) = false := by simp; omega
    have h3 : (3 : Nat) ≠ 0 := by decide
    rw [hd, mustB_no, upI_ne _ h3, badR_ne _ _ h3] at h
    rw [if_pos (by omega)]
    by_cases hb : b5 = 0
    · subst hb; cases h
    · rw [badR_ne _ _ hb] at h
      rw [badR_ne _ _ hb]
      refine ⟨?_, fun e => absurd e hb⟩
      cases h
      rfl

end Go.Proofs.YtapjhmfbmkckaaaGreatDoor

/- The code's declaration. -/
namespace Go.Proofs.YtapjhmfbmkckaaaGreatDoor
open Go.RowKit
open Go.Sort
open M

theorem decSize : (Tryz.prog.info? 45).map (·.size) = some 9 := by kernel_rfl
theorem decOne {s : ByteArray} {k0 k m : Int} {p d n : ByteArray} {A5 A6 : Option Addr} {n5 c5 n6 c6 : Nat} : (#[.int .i64 k0, .string s, .int .i64 k, .string p, .int .i64 m, .string d, .string n, .slice A5 n5 c5, .slice A6 n6 c6] : Array Value).all (·.oneCell') = true := Array.all_eq_true_iff_forall_mem.2 (fun v hv => by simp at hv; rcases hv with rfl | rfl | rfl | rfl | rfl | rfl | rfl | rfl | rfl <;> rfl)
theorem cell9 {w : World} {b : Nat} {v0 v1 v2 v3 v4 v5 v6 v7 v8 : Value} {T : TypeId} {fr : Nat × Nat} (h : w.heap[b]? = some (.cells #[v0, v1, v2, v3, v4, v5, v6, v7, v8] T fr)) : ∀ i v, ([v0, v1, v2, v3, v4, v5, v6, v7, v8] : List Value)[i]? = some v → w.cell? ⟨b, i, none⟩ = some v := fun i v hv => by
  rw [Lib.cell_of_heap h, ← hv, ← List.getElem?_toArray]

/-- Where a declaration that is amiss stops. -/
theorem oneD_no {S : Toks} {i n : Nat} (h : mustB (mustB 0 (declAt S i != 0) 2) (decide ((n : Int) < 60)) 3 ≠ 0) : Res.err (mustB (mustB 0 (declAt S i != 0) 2) (decide ((n : Int) < 60)) 3) i = oneD S i n := by
  unfold oneD
  by_cases hk : declAt S i = 0
  · rw [if_pos hk]
    have e : (declAt S i != 0) = false := by rw [hk]; rfl
    rw [e, mustB_no, mustB_bad _ _ (by decide)]
  · rw [if_neg hk]
    have e : (declAt S i != 0) = true := by simp [hk]
    rw [e, mustB_yes] at h ⊢
    by_cases hn : n < 60
    · have hd : decide ((n : Int) < 60) = true := by simp; omega
      rw [hd, mustB_yes] at h
      exact absurd rfl h
    · have hd : decide ((n : Int) < 60) = false := by simp; omega
      rw [hd, if_pos (by omega)]
      rfl
theorem oneD_yes {S : Toks} {i n : Nat} (h : mustB (mustB 0 (declAt S i != 0) 2) (decide ((n : Int) < 60)) 3 = 0) : declAt S i ≠ 0 ∧ n < 60 ∧ oneD S i n = decR S (declAt S i) (i + 1) := by
  have h1 := mustB_0 (by decide) h
  have hk : declAt S i ≠ 0 := fun e => by rw [e] at h1; cases h1
  rw [h1] at h
  have hn : n < 60 := by
    by_cases hn : n < 60
    · exact hn
    · have hd : decide ((n : Int) < 60) = false := by simp; omega
      rw [hd] at h; cases h
  refine ⟨hk, hn, ?_⟩
  unfold oneD
  rw [if_neg hk, if_neg (by omega)]
theorem declAt_cases (S : Toks) (i : Nat) : declAt S i = 0 ∨ declAt S i = 1 ∨ declAt S i = 2 ∨ declAt S i = 3 ∨ declAt S i = 4 := by
  unfold declAt declK
  repeat' split
  all_goals simp

/-- The ways of a declaration, as the code goes them. -/
theorem dec_name {S : Toks} {k : Int} (hk : k = 1 ∨ k = 2) {i b : Nat} {s : ByteArray} {i1 b1 : Nat} (h : NameOut S (decide (i < S.n) && greatK (S.K i) (S.T i)) i b s i1 b1) : badR b1 i1 (.ok (⟨k, s, noT⟩ : De) i1 0) = badR b i (decR S k i) := by
  have a := nameOut_res h (fun s i => Res.ok (⟨k, s, noT⟩ : De) i 0)
  rw [great_k] at a
  rw [a]
  unfold decR
  rw [if_pos hk]
theorem dec_typ {S : Toks} {k : Int} {s : ByteArray} {t : Ty} {i b i' b' : Nat} (h : badR b' i' (.ok t i' 0) = badR b i (cutR (atR S i))) : badR b' i' (.ok (⟨k, s, t⟩ : De) i' 0) = badR b i (typD k s (atR S i)) := by
  by_cases hb : b = 0
  · subst hb
    rw [badR_0] at h
    rw [badR_0]
    cases hR : atR S i with
    | ok u j c =>
      rw [hR] at h
      by_cases hb' : b' = 0
      · subst hb'
        cases h
        rfl
      · rw [badR_ne _ _ hb'] at h; cases h
    | err c j =>
      rw [hR] at h
      by_cases hb' : b' = 0
      · subst hb'; cases h
      · rw [badR_ne _ _ hb'] at h
        rw [badR_ne _ _ hb']
        cases h
        rfl
  · rw [badR_ne _ _ hb] at h
    rw [badR_ne _ _ hb]
    by_cases hb' : b' = 0
    · subst hb'; cases h
    · rw [badR_ne _ _ hb'] at h
      rw [badR_ne _ _ hb']
      cases h
      rfl
theorem dec_alias {S : Toks} {i b : Nat} {s : ByteArray} {t : Ty} {i1 b1 i' b' : Nat} (h1 : NameOut S (decide (i < S.n) && greatK (S.K i) (S.T i)) i b s i1 b1)
    (h3 : badR b' i' (.ok t i' 0) = badR (psB b1 (S.sign i1 [61])) (psI b1 (S.sign i1 [61]) i1) (cutR (atR S (psI b1 (S.sign i1 [61]) i1)))) : badR b' i' (.ok (⟨3, s, t⟩ : De) i' 0) = badR b i (decR S 3 i) := by
  have a := dec_typ (k := 3) (s := s) h3
  have b := sign_res (S.sign i1 [61]) b1 i1 (fun j => typD 3 s (atR S j))
  have c := nameOut_res h1 (fun s j => if S.sign j [61] = false then Res.err 2 j else typD 3 s (atR S (j + 1)))
  rw [great_k] at c
  rw [a, b, c]
  rfl
theorem dec_val {S : Toks} {i b : Nat} {s : ByteArray} {t : Ty} {i1 b1 i' b' : Nat} (h1 : NameOut S (decide (i < S.n) && smallK (S.K i) (S.T i)) i b s i1 b1)
    (h3 : badR b' i' (.ok t i' 0) = badR (psB b1 (S.sign i1 [58])) (psI b1 (S.sign i1 [58]) i1) (cutR (atR S (psI b1 (S.sign i1 [58]) i1)))) : badR b' i' (.ok (⟨4, s, t⟩ : De) i' 0) = badR b i (decR S 4 i) := by
  have a := dec_typ (k := 4) (s := s) h3
  have b := sign_res (S.sign i1 [58]) b1 i1 (fun j => typD 4 s (atR S j))
  have c := nameOut_res h1 (fun s j => if S.sign j [58] = false then Res.err 2 j else typD 4 s (atR S (j + 1)))
  rw [small_k] at c
  rw [a, b, c]
  rfl
theorem oneD_state {S : Toks} {i n : Nat} {D : Int} {b1 : Nat} (hD : declAt S i = D) (hb : mustB (mustB 0 (D != 0) 2) (decide ((n : Int) < 60)) 3 = b1) : badR b1 (upI b1 i) (decR S D (upI b1 i)) = oneD S i n := by
  subst hD hb
  by_cases h : mustB (mustB 0 (declAt S i != 0) 2) (decide ((n : Int) < 60)) 3 = 0
  · rw [h, badR_0, upI_0, (oneD_yes h).2.2]
  · rw [badR_ne _ _ h, upI_ne _ h]
    exact oneD_no h

theorem name_sign_le {S : Toks} {b1 i5 i6 b6 : Nat} {s : ByteArray} {p : Int → ByteArray → Bool} {l : List UInt8} (_ : b1 = 0 → i5 ≤ S.n) (h : NameOut S (decide (i5 < S.n) && p (S.K i5) (S.T i5)) i5 b1 s i6 b6) (e : psB b6 (S.sign i6 l) = 0) : psI b6 (S.sign i6 l) i6 ≤ S.n := by
  have h6 := psB_0 e
  subst h6
  cases hs : S.sign i6 l with
  | true => have := sign_lt hs; rw [psI_yes]; omega
  | false => rw [hs] at e; cases e

/-- A declaration's box. -/
def Dx (d : Nat) (k : Int) (s : ByteArray) (l : List Value) (w : World) : Prop := w.heap[d]? = some (.cells (#[.int .i64 k, .string s] ++ l.toArray) 45 (0, 0))
theorem Dx.there {d : Nat} {k : Int} {s : ByteArray} {v0 v1 v2 v3 v4 v5 v6 : Value} {w : World} (h : Dx d k s [v0, v1, v2, v3, v4, v5, v6] w) : w.there d 2 7 := fun j hj => by
  refine ⟨?_, Lib.frozen_of_heap h _⟩
  rw [Lib.cell_of_heap h]
  obtain rfl | rfl | rfl | rfl | rfl | rfl | rfl : j = 0 ∨ j = 1 ∨ j = 2 ∨ j = 3 ∨ j = 4 ∨ j = 5 ∨ j = 6 := by omega
  all_goals rfl
theorem Dx.put {d : Nat} {k : Int} {s : ByteArray} {v0 v1 v2 v3 v4 v5 v6 u0 u1 u2 u3 u4 u5 u6 : Value} {w : World} (h : Dx d k s [v0, v1, v2, v3, v4, v5, v6] w) : Dx d k s [u0, u1, u2, u3, u4, u5, u6] (w.setCells d 2 [u0, u1, u2, u3, u4, u5, u6]) := by
  rw [setCells7]
  have h0 := Joins.block_setCell (i := 2) h u0
  have h1 := Joins.block_setCell (i := 2 + 1) h0 u1
  have h2 := Joins.block_setCell (i := 2 + 2) h1 u2
  have h3 := Joins.block_setCell (i := 2 + 3) h2 u3
  have h4 := Joins.block_setCell (i := 2 + 4) h3 u4
  have h5 := Joins.block_setCell (i := 2 + 5) h4 u5
  have h6 := Joins.block_setCell (i := 2 + 6) h5 u6
  simpa [Dx] using h6
theorem Dx.named {d : Nat} {k : Int} {s s' : ByteArray} {v0 v1 v2 v3 v4 v5 v6 : Value} {w : World} (h : Dx d k s [v0, v1, v2, v3, v4, v5, v6] w) : Dx d k s' [v0, v1, v2, v3, v4, v5, v6] (w.setCell ⟨d, 1, none⟩ (.string s')) := by
  have h0 := Joins.block_setCell (i := 1) h (.string s')
  simpa [Dx] using h0
end Go.Proofs.YtapjhmfbmkckaaaGreatDoor

/- The walk of the code's declaration. -/
namespace Go.Proofs.YtapjhmfbmkckaaaGreatDoor
open Go.RowKit
open Go.Sort
open M

end Go.Proofs.YtapjhmfbmkckaaaGreatDoor

/- The code's module, behind its text's tokens. -/
namespace Go.Proofs.YtapjhmfbmkckaaaGreatDoor
open Go.RowKit
open Go.Sort
open M

theorem decR_ok {S : Toks} {k : Int} {i j c : Nat} {x : De} (h : decR S k i = .ok x j c) : i < j := by
  have ht : ∀ {i : Nat} {s : ByteArray} {k : Int}, typD k s (atR S i) = .ok x j c → i < j := fun {i s k} h => by
    cases hR : atR S i with
    | err b m => rw [hR] at h; cases h
    | ok t m c' =>
      rw [hR] at h
      cases h
      exact atR_le hR
  unfold decR at h
  split at h
  · split at h
    · cases h
    · cases h; omega
  split at h
  · split at h
    · cases h
    split at h
    · cases h
    · have := ht h; omega
  · split at h
    · cases h
    split at h
    · cases h
    · have := ht h; omega
theorem oneD_ok {S : Toks} {i n j c : Nat} {x : De} (h : oneD S i n = .ok x j c) : i + 1 < j ∧ n < 60 := by
  unfold oneD at h
  split at h
  · cases h
  split at h
  · cases h
  · exact ⟨decR_ok h, by omega⟩

/-- The module, behind its imports and some declarations. -/
def restD (S : Toks) (s : ByteArray) (l : List Im) (i : Nat) (xs : List De) : Res Mo :=
  match decsR S (61 - xs.length) i xs with
  | .err b i => .err b i
  | .ok ds i _ => .ok ⟨s, l, ds⟩ i 0
theorem rest_no {S : Toks} {s : ByteArray} {l : List Im} {i b : Nat} {xs : List De} (hn : xs.length ≤ 60 ∨ b ≠ 0) (h : (decide (b = 0) && decide (i < S.n)) = false) : badR b i (restD S s l i xs) = badR b i (.ok ⟨s, l, xs⟩ i 0) := by
  by_cases hb : b = 0
  · subst hb
    have hi : S.n ≤ i := by simpa using h
    rw [badR_0, badR_0]
    unfold restD
    rw [show 61 - xs.length = (60 - xs.length) + 1 by omega]
    unfold decsR
    rw [if_pos hi]
  · rw [badR_ne _ _ hb, badR_ne _ _ hb]
theorem rest_yes {S : Toks} {s : ByteArray} {l : List Im} {i i5 b5 : Nat} {xs : List De} {x : De} (hn : xs.length ≤ 60) (hi : i < S.n) (h : badR b5 i5 (.ok x i5 0) = oneD S i xs.length) :
    restD S s l i xs = badR b5 i5 (restD S s l i5 (xs ++ [x])) ∧ (b5 = 0 → xs.length < 60 ∧ i + 1 < i5) := by
  have e0 : ∀ f, decsR S (f + 1) i xs = if S.n ≤ i then .ok xs i 0 else match oneD S i xs.length with
      | .err b j => .err b j
      | .ok x j _ => decsR S f j (xs ++ [x]) := fun f => rfl
  have e1 : (xs ++ [x]).length = xs.length + 1 := by simp
  unfold restD
  rw [show 61 - xs.length = (60 - xs.length) + 1 by omega, e0, if_neg (by omega), ← h, e1, show 61 - (xs.length + 1) = 60 - xs.length by omega]
  by_cases hb : b5 = 0
  · subst hb
    have h6 := oneD_ok h.symm
    rw [badR_0, badR_0]
    exact ⟨rfl, fun _ => ⟨h6.2, h6.1⟩⟩
  · rw [badR_ne _ _ hb, badR_ne _ _ hb]
    exact ⟨rfl, fun e => absurd e hb⟩
theorem mod_chain {S : Toks} {s : ByteArray} {l : List Im} {i2 b2 i3 b3 : Nat}
    (h1 : NameOut S (decide (psI 0 (keyS S 0 kModule) 0 < S.n) && smallK (S.K (psI 0 (keyS S 0 kModule) 0)) (S.T (psI 0 (keyS S 0 kModule) 0))) (psI 0 (keyS S 0 kModule) 0) (psB 0 (keyS S 0 kModule)) s i2 b2)
    (h2 : badR b2 i2 (impsR S 21 i2 []) = badR b3 i3 (.ok l i3 0)) : badR b3 i3 (restD S s l i3 []) = modR S := by
  have a := nameOut_res h1 (fun s j => restM S s (impsR S 21 j []))
  rw [small_k] at a
  have b := sign_res (keyS S 0 kModule) 0 0 (fun j => if S.small j = false then Res.err 2 j else restM S (S.T j) (impsR S 21 (j + 1) []))
  have c : badR b3 i3 (restD S s l i3 []) = badR b2 i2 (restM S s (impsR S 21 i2 [])) := by
    by_cases hb : b2 = 0
    · subst hb
      rw [badR_0] at h2
      rw [badR_0]
      rw [h2]
      by_cases hb3 : b3 = 0
      · subst hb3; rfl
      · rw [badR_ne _ _ hb3, badR_ne _ _ hb3]; rfl
    · rw [badR_ne _ _ hb] at h2
      rw [badR_ne _ _ hb]
      by_cases hb3 : b3 = 0
      · subst hb3; cases h2
      · rw [badR_ne _ _ hb3] at h2
        rw [badR_ne _ _ hb3]
        cases h2
        rfl
  rw [c, a, b, badR_0]
  rfl

/-- A module's box. -/
def Mx (d : Nat) (nm : ByteArray) (Ai : Option Addr) (ni ci : Nat) (Ad : Option Addr) (nd cd : Nat) (w : World) : Prop := w.heap[d]? = some (.cells #[.string nm, .slice Ai ni ci, .slice Ad nd cd] 25 (0, 0))
end Go.Proofs.YtapjhmfbmkckaaaGreatDoor

/- The walk of the code's reading of a module. -/
namespace Go.Proofs.YtapjhmfbmkckaaaGreatDoor
open Go.RowKit
open Go.Sort
open M

theorem modSize : (Tryz.prog.info? 25).map (·.size) = some 3 := by kernel_rfl
theorem modOne {s : ByteArray} {A5 A6 : Option Addr} {n5 c5 n6 c6 : Nat} : (#[.string s, .slice A5 n5 c5, .slice A6 n6 c6] : Array Value).all (·.oneCell') = true := Array.all_eq_true_iff_forall_mem.2 (fun v hv => by simp at hv; rcases hv with rfl | rfl | rfl <;> rfl)
theorem dec_info : (Tryz.prog.info? 45).map (fun i => (i.zero, i.size, i.bytes)) = some (some (.agg #[.int .i64 0, .string ⟨#[]⟩, .int .i64 0, .string ⟨#[]⟩, .int .i64 0, .string ⟨#[]⟩, .string ⟨#[]⟩, .slice none 0 0, .slice none 0 0]), 9, 136) := by kernel_rfl

end Go.Proofs.YtapjhmfbmkckaaaGreatDoor

/- The code's Parse of a module's text. -/
namespace Go.Proofs.YtapjhmfbmkckaaaGreatDoor
open Go.RowKit
open Go.Sort
open M

theorem tkS_big {ts : List Tok} (h : ts.length ≤ 20000) : (tkS ts).n ≤ 9223372036854775806 := by show ts.length ≤ _; omega
/-- What Parse leaves. -/
def PmOut (w : World) (R : Res Mo) (e : Ending) (w' : World) : Prop :=
  Below w.heap.size w w' ∧
  ((∃ (l : List Value) (m : Mo) (j : Nat), R = .ok m j 0 ∧ e = .returned (.tuple #[.agg l.toArray, .nilIface]) ∧ MoAt (strike (· < w.heap.size) w') l m) ∨
   (∃ (b j g : Nat), R = .err b j ∧ b ≠ 0 ∧ e = .returned (.tuple #[.agg #[.string ⟨#[]⟩, .slice none 0 0, .slice none 0 0], .iface 91 (.pointer (some ⟨g, 0, none⟩))]) ∧ SpC g j b w'))

end Go.Proofs.YtapjhmfbmkckaaaGreatDoor

/- The reference's reader of modules: what it asks of a token, and takes. -/
namespace Go.Proofs.YtapjhmfbmkckaaaGreatDoor
open Go.RowKit
open Go.Sort
open M

/-- What Word asks. -/
def okW (S : Toks) (i : Nat) (kd : Int) (q : ByteArray → Bool) : Bool := decide (i < S.n) && ((S.K i == kd) && q (S.T i))
/-- Does a declaration begin? -/
def decAt (S : Toks) (i : Nat) : Bool := keyS S i [111, 112, 97, 113, 117, 101] || (keyS S i [104, 105, 100, 100, 101, 110] || (keyS S i [97, 108, 105, 97, 115] || keyS S i [118, 97, 108]))
end Go.Proofs.YtapjhmfbmkckaaaGreatDoor

/- The reference's Major, of modules. -/
namespace Go.Proofs.YtapjhmfbmkckaaaGreatDoor
open Go.RowKit
open Go.Sort
open M

theorem major_nought {l : List UInt8} (h : bt l 0 = 48) : majorOk l = false := by
  rw [Bool.eq_false_iff]; intro e
  have := ((majorOk_iff l).1 e).2.2.2
  omega

end Go.Proofs.YtapjhmfbmkckaaaGreatDoor

/- The reference's Type, of modules. -/
namespace Go.Proofs.YtapjhmfbmkckaaaGreatDoor
open Go.RowKit
open Go.Sort
open M

/-- What the reference's At leaves, in a box beside it. -/
def RdC6 (S : Toks) (i : Nat) (wb : World) (s3 s4 s5 s6 : Value) (wx : World) : Prop :=
  Below wb.heap.size wb wx ∧ ∃ g3 : Nat, s3 = .pointer (some ⟨g3, 0, none⟩) ∧ wb.heap.size ≤ g3 ∧
    ((∃ (l : List Value) (t : Ty) (j c : Nat), atR S i = .ok t j c ∧ s4 = .int .i64 j ∧ s5 = .int .i64 0 ∧ wx.heap[g3]? = some (.cells l.toArray 29 (0, 0)) ∧ TyAt (strike (fun b => b < wb.heap.size ∨ b = g3) wx) l t) ∨
     (∃ b j : Nat, atR S i = .err b j ∧ b ≠ 0 ∧ s5 = .int .i64 b ∧ s6 = .int .i64 j))
theorem RdC6.afterOk {S : Toks} {i : Nat} {wb w2 w4 : World} {l : List Value} {t : Ty} {j c g3 : Nat} {s6 : Value} (hb : Below wb.heap.size wb w2) (hg : wb.heap.size ≤ g3) (hok : atR S i = .ok t j c) (hT : TyAt (strike (fun b => b < wb.heap.size ∨ b = g3) w2) l t)
    (hz : w2.heap.size ≤ w4.heap.size) (hrow : w4.heap[g3]? = some (.cells l.toArray 29 (0, 0))) (ho : ∀ b, b < w2.heap.size → b ≠ g3 → w4.heap[b]? = w2.heap[b]?) (h1 : w4.os = w2.os) (h2 : w4.tape = w2.tape) (h3 : w4.output = w2.output) :
    RdC6 S i wb (.pointer (some ⟨g3, 0, none⟩)) (.int .i64 j) (.int .i64 0) s6 w4 :=
  ⟨⟨h1.trans hb.os, h2.trans hb.tape, h3.trans hb.output, Nat.le_trans hb.size hz, fun k hk => (ho k (Nat.lt_of_lt_of_le hk hb.size) (by omega)).trans (hb.block k hk)⟩, g3, rfl, hg, .inl ⟨l, t, j, c, hok, rfl, rfl, hrow, hT.move hz fun b hlt hS => ⟨hS, ho b hlt (fun e => hS (.inr e))⟩⟩⟩
theorem RdC6.afterErr {S : Toks} {i : Nat} {wb w2 w4 : World} {b j g3 : Nat} {s4 : Value} (hb : Below wb.heap.size wb w2) (hg : wb.heap.size ≤ g3) (herr : atR S i = .err b j) (hb0 : b ≠ 0)
    (hz : w2.heap.size ≤ w4.heap.size) (ho : ∀ b, b < w2.heap.size → b ≠ g3 → w4.heap[b]? = w2.heap[b]?) (h1 : w4.os = w2.os) (h2 : w4.tape = w2.tape) (h3 : w4.output = w2.output) :
    RdC6 S i wb (.pointer (some ⟨g3, 0, none⟩)) s4 (.int .i64 b) (.int .i64 j) w4 :=
  ⟨⟨h1.trans hb.os, h2.trans hb.tape, h3.trans hb.output, Nat.le_trans hb.size hz, fun k hk => (ho k (Nat.lt_of_lt_of_le hk hb.size) (by omega)).trans (hb.block k hk)⟩, g3, rfl, hg, .inr ⟨b, j, herr, hb0, rfl, rfl⟩⟩

end Go.Proofs.YtapjhmfbmkckaaaGreatDoor

/- The reference's Import, of modules. -/
namespace Go.Proofs.YtapjhmfbmkckaaaGreatDoor
open Go.RowKit
open Go.Sort
open M

theorem okW_small (S : Toks) (i : Nat) : okW S i 1 (fun s => smallB s.data.toList) = (decide (i < S.n) && smallK (S.K i) (S.T i)) := rfl
theorem okW_great (S : Toks) (i : Nat) : okW S i 2 (fun s => greatB s.data.toList) = (decide (i < S.n) && greatK (S.K i) (S.T i)) := rfl
theorem okW_key (S : Toks) (i : Nat) (l : ByteArray) : okW S i 1 (fun s => s.data.toList == l.data.toList) = keyS S i l.data.toList := by unfold okW keyS; rw [Bool.and_assoc]
theorem okW_sign (S : Toks) (i : Nat) (l : ByteArray) : okW S i 4 (fun s => s.data.toList == l.data.toList) = S.sign i l.data.toList := by unfold okW Toks.sign; rw [Bool.and_assoc]
theorem nameOut_ps {S : Toks} {q : Bool} {i b : Nat} {s : ByteArray} {i' b' : Nat} (h : NameOut S q i b s i' b') : i' = psI b q i ∧ b' = psB b q := by
  rcases h with ⟨rfl, rfl, rfl, rfl, rfl⟩ | ⟨rfl, rfl, rfl, rfl⟩ | ⟨hb, rfl, rfl⟩
  · exact ⟨rfl, rfl⟩
  · exact ⟨rfl, rfl⟩
  · rw [psI_bad _ _ hb, psB_bad _ hb]; exact ⟨rfl, rfl⟩

/-- An import's box. -/
def Ix (d : Nat) (p : ByteArray) (m : Int) (q a : ByteArray) (w : World) : Prop := w.heap[d]? = some (.cells #[.string p, .int .i64 m, .string q, .string a] 55 (0, 0))
end Go.Proofs.YtapjhmfbmkckaaaGreatDoor

/- The reference's declaration. -/
namespace Go.Proofs.YtapjhmfbmkckaaaGreatDoor
open Go.RowKit
open Go.Sort
open M

theorem Dx.kinded {d : Nat} {k k' : Int} {s : ByteArray} {v0 v1 v2 v3 v4 v5 v6 : Value} {w : World} (h : Dx d k s [v0, v1, v2, v3, v4, v5, v6] w) : Dx d k' s [v0, v1, v2, v3, v4, v5, v6] (w.setCell ⟨d, 0, none⟩ (.int .i64 k')) := by
  have h0 := Joins.block_setCell (i := 0) h (.int .i64 k')
  simpa [Dx] using h0
theorem declK_cases {l : List UInt8} (h : declK l ≠ 0) : (l = [111, 112, 97, 113, 117, 101] ∧ declK l = 1) ∨ (l = [104, 105, 100, 100, 101, 110] ∧ declK l = 2) ∨ (l = [97, 108, 105, 97, 115] ∧ declK l = 3) ∨ (l = [118, 97, 108] ∧ declK l = 4) := by
  unfold declK at h ⊢
  split at h
  · exact .inl ⟨by assumption, if_pos (by assumption)⟩
  split at h
  · rename_i h1 h2; subst h2; exact .inr (.inl ⟨rfl, by decide⟩)
  split at h
  · rename_i h1 h2 h3; subst h3; exact .inr (.inr (.inl ⟨rfl, by decide⟩))
  split at h
  · rename_i h1 h2 h3 h4; subst h4; exact .inr (.inr (.inr ⟨rfl, by decide⟩))
  · exact absurd rfl h

end Go.Proofs.YtapjhmfbmkckaaaGreatDoor

/- The reference's Parse of modules: what its loops stand on. -/
namespace Go.Proofs.YtapjhmfbmkckaaaGreatDoor
open Go.RowKit
open Go.Sort
open M

/-- A row more in a module's box, at its cell k: 1 imports, 2 declarations. -/
theorem row_more {α : Type} {R : Reads α} {lo d g cap c B : Nat} {xs : List α} {A : Option Addr} {w1 w3 : World} {o : Obj} {l : List Value} {x : α} {C : List (List Value)} {old : Array Value} {T : TypeId} {k : Nat}
    (h : Row R lo xs A c w1) (hlo : lo ≤ B) (hB1 : B ≤ w1.heap.size) (hwo : ∀ b, (Value.slice A xs.length c).ownBlock = some b → b < B)
    (hC1 : C.length = xs.length) (hC4 : ∀ (i : Nat) (l : List Value) (x : α), C[i]? = some l → xs[i]? = some x → R.E (strike (fun b => b < lo ∨ (Value.slice A xs.length c).ownBlock = some b) w1) l x)
    (hE : R.E (strike (· < B) w1) l x) (hown : w3.ownsRow lo R.T R.k (.slice (some ⟨g, 0, none⟩) (xs.length + 1) cap) (xs.length + 1) (C.flatten ++ l)) (hgrow : (w1.alloc o).grownBy w3 (Value.slice A xs.length c).ownBlock)
    (hat : (Value.slice A xs.length c).ownBlock = some g ∨ g = (w1.alloc o).heap.size) (hd : d < lo) (hbox : w1.heap[d]? = some (.cells old T (0, 0))) (hk : old[k]? = some (.slice A xs.length c)) :
    Row R lo (xs ++ [x]) (some ⟨g, 0, none⟩) cap (w3.setCell ⟨d, k, none⟩ (.slice (some ⟨g, 0, none⟩) (xs.length + 1) cap)) ∧
    (w3.setCell ⟨d, k, none⟩ (.slice (some ⟨g, 0, none⟩) (xs.length + 1) cap)).heap[d]? = some (.cells (old.setIfInBounds k (.slice (some ⟨g, 0, none⟩) (xs.length + 1) cap)) T (0, 0)) ∧
    (∀ b, b < lo → b ≠ d → (w3.setCell ⟨d, k, none⟩ (.slice (some ⟨g, 0, none⟩) (xs.length + 1) cap)).heap[b]? = w1.heap[b]?) ∧
    (∀ m, m ≤ d → Below m w1 (w3.setCell ⟨d, k, none⟩ (.slice (some ⟨g, 0, none⟩) (xs.length + 1) cap))) ∧
    w3.cell? ⟨d, k, none⟩ = some (.slice A xs.length c) ∧ w3.frozen? ⟨d, k, none⟩ = false ∧ w1.heap.size ≤ (w3.setCell ⟨d, k, none⟩ (.slice (some ⟨g, 0, none⟩) (xs.length + 1) cap)).heap.size := by
  obtain ⟨R3, old3, hs3⟩ := Row.more h hlo hwo hC1 hC4 hE hown hgrow hat
  have hlow : ∀ b, (Value.slice A xs.length c).ownBlock = some b → lo ≤ b := fun b e => (h.lt e).1
  have hd1 : d < w1.heap.size := (Array.getElem?_eq_some_iff.1 hbox).1
  have B3 := (old3 d (fun e => by have := hlow d e; omega) hd1).trans hbox
  have ot : ∀ b, b ≠ d → (w3.setCell ⟨d, k, none⟩ (.slice (some ⟨g, 0, none⟩) (xs.length + 1) cap)).heap[b]? = w3.heap[b]? := fun b hb => Below.heap_setCell _ _ _ _ (by show b ≠ d; exact hb)
  have of : ∀ b, b < lo → b ≠ d → (w3.setCell ⟨d, k, none⟩ (.slice (some ⟨g, 0, none⟩) (xs.length + 1) cap)).heap[b]? = w1.heap[b]? := fun b hb hne => (ot b hne).trans (old3 b (fun e => by have := hlow b e; omega) (by omega))
  refine ⟨R3.keep (by simp) (fun b hb hlt => ot b (by omega)), Joins.block_setCell (i := k) B3 _, of, fun m hm => ?_, ?_, Lib.frozen_of_heap B3 k, by simp; omega⟩
  · have hgw := hgrow
    exact ⟨hgw.os.trans rfl, hgw.tape.trans rfl, hgw.output.trans rfl, by simp; omega, fun j hj => of j (by omega) (by omega)⟩
  · rw [Lib.cell_of_heap B3 k]; exact hk

theorem imp6_yes {S : Toks} {nm : ByteArray} {i i5 b5 : Nat} {xs : List Im} {x : Im} (hn : xs.length < 20) (hk : keyS S i kImport = true) (h : badR b5 i5 (.ok x i5 0) = impR S (i + 1)) :
    restM S nm (impsR S (21 - xs.length) i xs) = badR b5 i5 (restM S nm (impsR S (21 - (xs ++ [x]).length) i5 (xs ++ [x]))) ∧ (b5 = 0 → i < i5) := by
  have e0 : ∀ f, impsR S (f + 1) i xs = if keyS S i kImport = false then .ok xs i 0 else if 20 ≤ xs.length then .err 3 i else match impR S (i + 1) with
      | .err b j => .err b j
      | .ok x j _ => impsR S f j (xs ++ [x]) := fun f => rfl
  have e1 : (xs ++ [x]).length = xs.length + 1 := by simp
  rw [show 21 - xs.length = (20 - xs.length) + 1 by omega, e0, if_neg (by rw [hk]; decide), if_neg (by omega), ← h, e1, show 21 - (xs.length + 1) = 20 - xs.length by omega]
  by_cases hb : b5 = 0
  · subst hb
    have h6 := impR_ok h.symm
    rw [badR_0, badR_0]
    exact ⟨rfl, fun _ => by omega⟩
  · rw [badR_ne _ _ hb, badR_ne _ _ hb]
    exact ⟨rfl, fun e => absurd e hb⟩
theorem imp6_many {S : Toks} {nm : ByteArray} {i : Nat} {xs : List Im} (hn : xs.length = 20) (hk : keyS S i kImport = true) : restM S nm (impsR S (21 - xs.length) i xs) = .err 3 i := by
  rw [hn]
  have e0 : impsR S (0 + 1) i xs = if keyS S i kImport = false then .ok xs i 0 else if 20 ≤ xs.length then .err 3 i else match impR S (i + 1) with
      | .err b j => .err b j
      | .ok x j _ => impsR S 0 j (xs ++ [x]) := rfl
  rw [show 21 - 20 = 0 + 1 by omega, e0, if_neg (by rw [hk]; decide), if_pos (by omega)]
  rfl
theorem imp6_no {S : Toks} {nm : ByteArray} {i b : Nat} {xs : List Im} (hn : xs.length ≤ 20) (h : (decide (b = 0) && keyS S i kImport) = false) : badR b i (restM S nm (impsR S (21 - xs.length) i xs)) = badR b i (restD S nm xs i []) := by
  by_cases hb : b = 0
  · subst hb
    rw [badR_0, badR_0, show 21 - xs.length = (20 - xs.length) + 1 by omega]
    unfold impsR
    rw [if_pos (by simpa using h)]
    rfl
  · rw [badR_ne _ _ hb, badR_ne _ _ hb]
/-- Keys are words of small letters. -/
def Keyed (S : Toks) : Prop := ∀ i, i < S.n → declK (S.T i).data.toList ≠ 0 → S.K i = 1
theorem decAt_yes {S : Toks} {i : Nat} (h : decAt S i = true) : i < S.n ∧ declK (S.T i).data.toList ≠ 0 := by
  have hk : ∀ {l : List UInt8}, keyS S i l = true → i < S.n ∧ (S.T i).data.toList = l := fun {l} h => by
    unfold keyS at h
    simp only [Bool.and_eq_true, decide_eq_true_eq, beq_iff_eq] at h
    exact ⟨h.1.1, h.2⟩
  unfold decAt at h
  simp only [Bool.or_eq_true] at h
  rcases h with h | h | h | h
  all_goals (obtain ⟨h1, h2⟩ := hk h; refine ⟨h1, ?_⟩; rw [h2]; decide)
theorem decAt_no {S : Toks} (hK : Keyed S) {i : Nat} (h : decAt S i = false) (hi : i < S.n) : declAt S i = 0 := by
  unfold declAt
  rw [if_pos hi]
  by_cases hd : declK (S.T i).data.toList = 0
  · exact hd
  · have h1 := hK i hi hd
    have hk : ∀ {l : List UInt8}, (S.T i).data.toList = l → keyS S i l = true := fun {l} e => by
      unfold keyS
      rw [e, h1, decide_eq_true hi]
      simp
    unfold decAt at h
    simp only [Bool.or_eq_false_iff] at h
    rcases declK_cases hd with ⟨e, -⟩ | ⟨e, -⟩ | ⟨e, -⟩ | ⟨e, -⟩
    · rw [hk e] at h; exact absurd h.1 (by decide)
    · rw [hk e] at h; exact absurd h.2.1 (by decide)
    · rw [hk e] at h; exact absurd h.2.2.1 (by decide)
    · rw [hk e] at h; exact absurd h.2.2.2 (by decide)
theorem oneD_at {S : Toks} {i n : Nat} (hi : i < S.n) (hd : declK (S.T i).data.toList ≠ 0) (hn : n < 60) : oneD S i n = decR S (declK (S.T i).data.toList) (i + 1) := by
  have e : declAt S i = declK (S.T i).data.toList := if_pos hi
  unfold oneD
  rw [e, if_neg hd, if_neg (by omega)]
theorem oneD_many {S : Toks} {i n : Nat} (hi : i < S.n) (hd : declK (S.T i).data.toList ≠ 0) (hn : 60 ≤ n) : oneD S i n = .err 3 i := by
  have e : declAt S i = declK (S.T i).data.toList := if_pos hi
  unfold oneD
  rw [e, if_neg hd, if_pos hn]
theorem rest_err {S : Toks} {s : ByteArray} {l : List Im} {i b j : Nat} {xs : List De} (hn : xs.length ≤ 60) (hi : i < S.n) (h : oneD S i xs.length = .err b j) : restD S s l i xs = .err b j := by
  unfold restD
  rw [show 61 - xs.length = (60 - xs.length) + 1 by omega]
  unfold decsR
  rw [if_neg (by omega), h]
theorem oneD_none {S : Toks} {i n : Nat} (h : declAt S i = 0) : oneD S i n = .err 2 i := by unfold oneD; rw [if_pos h]
theorem mod_start {S : Toks} {s : ByteArray} {i2 b2 : Nat}
    (h1 : NameOut S (decide (psI 0 (keyS S 0 kModule) 0 < S.n) && smallK (S.K (psI 0 (keyS S 0 kModule) 0)) (S.T (psI 0 (keyS S 0 kModule) 0))) (psI 0 (keyS S 0 kModule) 0) (psB 0 (keyS S 0 kModule)) s i2 b2) : badR b2 i2 (restM S s (impsR S 21 i2 [])) = modR S := by
  have a := nameOut_res h1 (fun s j => restM S s (impsR S 21 j []))
  rw [small_k] at a
  have b := sign_res (keyS S 0 kModule) 0 0 (fun j => if S.small j = false then Res.err 2 j else restM S (S.T j) (impsR S 21 (j + 1) []))
  rw [a, b, badR_0]
  rfl

/-- What a lexer's tokens are of. -/
theorem finN_from (s : ByteArray) : ∀ (n i : Nat) (acc : List Tok), (∀ t ∈ acc, ∃ k, t.kind = (item s.data.toList k).1 ∧ t.text = s.extract k (item s.data.toList k).2) → ∀ t ∈ (finN s n i acc).1, ∃ k, t.kind = (item s.data.toList k).1 ∧ t.text = s.extract k (item s.data.toList k).2
  | 0, _, acc, h => h
  | n + 1, i, acc, h => by
    unfold finN
    split
    · exact h
    split
    · intro t ht; simp at ht
    split
    · exact finN_from s n _ acc h
    · refine finN_from s n _ _ fun t ht => ?_
      rcases List.mem_append.1 ht with ht | ht
      · exact h t ht
      · rw [List.mem_singleton.1 ht]
        exact ⟨i, rfl, rfl⟩
theorem keyed_fin {s : ByteArray} {ts : List Tok} (h : fin s 0 [] = (ts, -1)) : Keyed (tkS ts) := by
  intro i hi hd
  have hi' : i < ts.length := hi
  have ht : ts[i]? = some ts[i] := List.getElem?_eq_getElem hi'
  have eK : (tkS ts).K i = (ts[i].kind : Int) := by unfold tkS; simp [ht]
  have eT : (tkS ts).T i = ts[i].text := by unfold tkS; simp [ht]
  rw [eT] at hd
  rw [eK]
  have hf := finN_from s (s.size - 0) 0 [] (fun t ht => by simp at ht)
  unfold fin at h
  rw [h] at hf
  obtain ⟨k, e1, e2⟩ := hf ts[i] (List.getElem_mem hi')
  rw [e2] at hd
  have hx : (s.extract k (item s.data.toList k).2).data.toList = (s.data.toList.drop k).take ((item s.data.toList k).2 - k) := by
    rw [ByteArray.data_extract, Array.toList_extract, List.extract_eq_take_drop]
  have hb : ∀ c r, (s.extract k (item s.data.toList k).2).data.toList = c :: r → bt s.data.toList k = (c.toNat : Int) := fun c r e => by
    rw [hx] at e
    unfold bt
    cases hdr : s.data.toList.drop k with
    | nil => rw [hdr] at e; simp at e
    | cons c' r' =>
      rw [hdr] at e
      cases hm : (item s.data.toList k).2 - k with
      | zero => rw [hm] at e; simp at e
      | succ m =>
        rw [hm] at e
        simp at e
        have : s.data.toList[k]? = some c' := by
          have := congrArg (fun l => l[0]?) hdr
          simpa using this
        rw [List.getD_eq_getElem?_getD, this]
        simp [e.1]
  have hlow : ∀ x : Int, bt s.data.toList k = x → lowC x = true → blankC x = false → x ≠ 35 → (item s.data.toList k).1 = 1 := fun x e h1 h2 h3 => by
    unfold item
    rw [e, h2, if_neg (by decide), if_neg h3, if_pos h1]
  rw [e1]
  rcases declK_cases hd with ⟨e, -⟩ | ⟨e, -⟩ | ⟨e, -⟩ | ⟨e, -⟩
  · rw [hlow 111 (by rw [hb _ _ e]; rfl) (by decide) (by decide) (by decide)]; rfl
  · rw [hlow 104 (by rw [hb _ _ e]; rfl) (by decide) (by decide) (by decide)]; rfl
  · rw [hlow 97 (by rw [hb _ _ e]; rfl) (by decide) (by decide) (by decide)]; rfl
  · rw [hlow 118 (by rw [hb _ _ e]; rfl) (by decide) (by decide) (by decide)]; rfl

end Go.Proofs.YtapjhmfbmkckaaaGreatDoor
