/-
  Several texts in one: The code's At: the type that begins at a token. · The walk of the reference's parts, over its Type. · The reference's reader of types, all in all. · The reference's At: the type that begins at a token. · Plain mathematics for layer 3: what stands at a place of a text (a blank, a remark, a word, a number, a sign, or nothing), and what all of it comes to. Nothing of any program. · Plain mathematics for layer 3, second part: texts of one byte, pieces of a text, a line's end, the signs, as the library's own functions tell them. · Walks of package lex: which text of one byte is a letter, a digit, may stand in a word; how long a run of such is; signs; where a line ends. · Walks of package lex: the sign, the token that a text begins with, and what is passed by. · The walk of package lex's Tokens: the tokens of any text that isn't too long, or where nothing stands. · Tokens' answers in the words that a caller needs.
-/
import Derived.Test.YtapjhmfbmkckaaaGreatDoorJ04
import Derived.Test.YtapjhmfbmkckaaaGreatDoorJ00
import Derived.Lib.IndexAny
import Derived.Lib.IndexLaws
import Derived.Lib.IndexBytes
import Derived.Lib.Strings
import GoSem.Op.String
import Derived.Test.YtapjhmfbmkckaaaGreatDoorJ02
import Derived.Below
import Derived.Laws.OwnMore
import Derived.OwnWalk
import Derived.Deep.Draws
import Derived.Laws.AppendOwn
import Derived.Deep.QuietTactic
import Derived.BigQuiet
/- The code's At: the type that begins at a token. -/
namespace Go.Proofs.YtapjhmfbmkckaaaGreatDoor
open Go.RowKit
open Go.Sort
open M

section
variable {P : Program}
theorem results_three {fn : Func} {p u u2 : Tmp} {ty : TypeId} (h : fn.results = #[.cell p ty, .tmp u, .tmp u2]) (tmps : Array Value) (w : World) :
    (results fn tmps).run P w = ((asAddr (tmps.getD p undef)).run P w).andThen fun a w₁ => ((loadVar ty a).run P w₁).andThen fun v w₂ => .ok (.tuple #[v, tmps.getD u undef, tmps.getD u2 undef]) w₂ := by
  simp only [results, h]
  simp [Sem.run_bind, Result.andThen]
theorem results_four {fn : Func} {p u u2 u3 : Tmp} {ty : TypeId} (h : fn.results = #[.cell p ty, .tmp u, .tmp u2, .tmp u3]) (tmps : Array Value) (w : World) :
    (results fn tmps).run P w = ((asAddr (tmps.getD p undef)).run P w).andThen fun a w₁ => ((loadVar ty a).run P w₁).andThen fun v w₂ => .ok (.tuple #[v, tmps.getD u undef, tmps.getD u2 undef, tmps.getD u3 undef]) w₂ := by
  simp only [results, h]
  simp [Sem.run_bind, Result.andThen]
theorem ret_agg3 {fn : Func} {R : Ending → World → Prop} {a : Act} {w : World} {p u u2 : Tmp} {ty : TypeId} {ds : Array Field} {vs : List Value} {b : Nat} {x y : Value}
    (h : fn.results = #[.cell p ty, .tmp u, .tmp u2]) (hp : a.tmps.getD p undef = .pointer (some ⟨b, 0, none⟩)) (hx : a.tmps.getD u undef = x) (hy : a.tmps.getD u2 undef = y)
    (hty : P.underlying ty = some (.struct ds)) (hi : (P.info? ty).map (·.size) = some vs.length) (hc : ∀ i v, vs[i]? = some v → w.cell? ⟨b, i, none⟩ = some v)
    (hd : a.defers = []) (hR : R (.returned (.tuple #[.agg vs.toArray, x, y])) w) : bodyPost P fn R .ret a w := by
  refine bodyPost_ret (v := .tuple #[.agg vs.toArray, x, y]) ?_ hd hR
  rw [results_three h, hp, hx, hy]
  simp [asAddr, Result.andThen, run_loadVar_struct w b ty vs ds hty hi hc, Sem.run_pure]
theorem ret_agg4 {fn : Func} {R : Ending → World → Prop} {a : Act} {w : World} {p u u2 u3 : Tmp} {ty : TypeId} {ds : Array Field} {vs : List Value} {b : Nat} {x y z : Value}
    (h : fn.results = #[.cell p ty, .tmp u, .tmp u2, .tmp u3]) (hp : a.tmps.getD p undef = .pointer (some ⟨b, 0, none⟩)) (hx : a.tmps.getD u undef = x) (hy : a.tmps.getD u2 undef = y) (hz : a.tmps.getD u3 undef = z)
    (hty : P.underlying ty = some (.struct ds)) (hi : (P.info? ty).map (·.size) = some vs.length) (hc : ∀ i v, vs[i]? = some v → w.cell? ⟨b, i, none⟩ = some v)
    (hd : a.defers = []) (hR : R (.returned (.tuple #[.agg vs.toArray, x, y, z])) w) : bodyPost P fn R .ret a w := by
  refine bodyPost_ret (v := .tuple #[.agg vs.toArray, x, y, z]) ?_ hd hR
  rw [results_four h, hp, hx, hy, hz]
  simp [asAddr, Result.andThen, run_loadVar_struct w b ty vs ds hty hi hc, Sem.run_pure]
end

/-- A Spot at block g. -/
def SpAt (g : Nat) (x : Int) (b : Nat) (w : World) : Prop := w.heap[g]? = some (.cells #[.int .i64 x, .iface 70 (.int .i64 b)] 82 (0, 0))
/-- The type that begins at a token, or what is amiss. -/
def atR (S : Toks) (i : Nat) : Res Ty := pT S (2 * S.n + 3) 1 i 0
theorem atR_far (S : Toks) (i : Nat) : ∀ j, atR S i ≠ .err 99 j := fun j e => by
  have := (steps S (2 * S.n + 3)).1 1 i 0 (by omega)
  unfold atR at e
  rw [e] at this
  exact this rfl

theorem setRow_below {w wk : World} (h : Below w.heap.size w wk) {b : Nat} (hb : w.heap.size ≤ b) (vs : Array Value) : Below w.heap.size w (wk.setRow b vs) :=
  ⟨h.os, h.tape, h.output, by have := h.size; simpa using this, fun j hj => (setRow_other wk b j _ (by omega)).trans (h.block j hj)⟩

/-- What At leaves, of a token that is there, or behind all. -/
def AtOut (w : World) (S : Toks) (i : Nat) (e : Ending) (w' : World) : Prop :=
  Below w.heap.size w w' ∧
  ((∃ (l : List Value) (t : Ty) (j c : Nat), atR S i = .ok t j c ∧ e = .returned (.tuple #[.agg l.toArray, .int .i64 j, .nilIface]) ∧ TyAt (strike (· < w.heap.size) w') l t) ∨
   (∃ (b j g : Nat), atR S i = .err b j ∧ b ≠ 0 ∧ e = .returned (.tuple #[.agg #[.int .i64 0, .string ⟨#[]⟩, .int .i64 0, .string ⟨#[]⟩, .string ⟨#[]⟩, .slice none 0 0, .slice none 0 0], .int .i64 0, .iface 91 (.pointer (some ⟨g, 0, none⟩))]) ∧ SpAt g j b w'))

end Go.Proofs.YtapjhmfbmkckaaaGreatDoor

/- The walk of the reference's parts, over its Type. -/
namespace Go.Proofs.YtapjhmfbmkckaaaGreatDoor
open Go.RowKit
open Go.Sort
open M

/-- The cells of one of the subs. -/
theorem GrR.subAt {lo g6 : Nat} {ns : List ByteArray} {n5 : Nat} {ss : List Ty} {n6 c6 : Nat} {v5 : Value} {w : World} (h : GrR lo ns n5 ss n6 v5 (.slice (some ⟨g6, 0, none⟩) n6 c6) w) {i : Nat} {t : Ty} (ht : ss[i]? = some t) :
    ∃ (An : Option Addr) (cA : Nat) (As : Option Addr) (cS : Nat), GrT lo v5 (.slice (some ⟨g6, 0, none⟩) n6 c6) w [.int .i64 t.kind, .string t.pkg, .int .i64 t.major, .string t.mod, .string t.name, .slice An t.names.length cA, .slice As t.subs.length cS] t ∧
      w.cell? ⟨g6, i * 7, none⟩ = some (.int .i64 t.kind) ∧ w.cell? ⟨g6, i * 7 + 1, none⟩ = some (.string t.pkg) ∧ w.cell? ⟨g6, i * 7 + 2, none⟩ = some (.int .i64 t.major) ∧ w.cell? ⟨g6, i * 7 + 3, none⟩ = some (.string t.mod) ∧
      w.cell? ⟨g6, i * 7 + 4, none⟩ = some (.string t.name) ∧ w.cell? ⟨g6, i * 7 + 5, none⟩ = some (.slice An t.names.length cA) ∧ w.cell? ⟨g6, i * 7 + 6, none⟩ = some (.slice As t.subs.length cS) := by
  obtain ⟨C, hC1, hC2, own, hC4⟩ := h.subs
  have hi := (List.getElem?_eq_some_iff.1 ht).1
  have hi2 : i < C.length := by rw [hC1, ← h.len6]; exact hi
  have hx : C[i]? = some C[i] := List.getElem?_eq_getElem hi2
  have hT := hC4 i C[i] t hx ht
  obtain ⟨An, cA, As, cS, e, -⟩ := hT.parts
  have hc : ∀ q v, q < 7 → (C[i])[q]? = some v → w.cell? ⟨g6, i * 7 + q, none⟩ = some v := fun q v hq hv => by
    rw [own.cellAt (i * 7 + q) (by omega), flat7_at C hC2 i q C[i] hx hq]; exact hv
  rw [e] at hT
  refine ⟨An, cA, As, cS, hT, hc 0 _ (by omega) (by rw [e]; rfl), hc 1 _ (by omega) (by rw [e]; rfl), hc 2 _ (by omega) (by rw [e]; rfl), hc 3 _ (by omega) (by rw [e]; rfl), hc 4 _ (by omega) (by rw [e]; rfl), hc 5 _ (by omega) (by rw [e]; rfl), hc 6 _ (by omega) (by rw [e]; rfl)⟩
theorem GrR.thereSub {lo g6 : Nat} {ns : List ByteArray} {n5 : Nat} {ss : List Ty} {n6 c6 : Nat} {v5 : Value} {w : World} (h : GrR lo ns n5 ss n6 v5 (.slice (some ⟨g6, 0, none⟩) n6 c6) w) {i : Nat} (hi : i < n6) : w.there g6 (i * 7) 7 := fun j hj => by
  obtain ⟨C, hC1, hC2, own, hC4⟩ := h.subs
  refine ⟨?_, own.frozenAt _⟩
  have hi2 : i < C.length := by rw [hC1]; exact hi
  have hx : C[i]? = some C[i] := List.getElem?_eq_getElem hi2
  rw [own.cellAt (i * 7 + j) (by omega), flat7_at C hC2 i j C[i] hx hj, List.getElem?_eq_getElem (by rw [hC2 _ (List.getElem_mem hi2)]; exact hj)]
  rfl

end Go.Proofs.YtapjhmfbmkckaaaGreatDoor

/- The reference's reader of types, all in all. -/
namespace Go.Proofs.YtapjhmfbmkckaaaGreatDoor
open Go.RowKit
open Go.Sort
open M

end Go.Proofs.YtapjhmfbmkckaaaGreatDoor

/- The reference's At: the type that begins at a token. -/
namespace Go.Proofs.YtapjhmfbmkckaaaGreatDoor
open Go.RowKit
open Go.Sort
open M

/-- What the reference's At leaves, of a token that is there, or behind all. -/
def RtOut (w : World) (S : Toks) (i : Nat) (e : Ending) (w' : World) : Prop :=
  Below w.heap.size w w' ∧
  ((∃ (l : List Value) (t : Ty) (j c : Nat), atR S i = .ok t j c ∧ e = .returned (.tuple #[.agg l.toArray, .int .i64 j, .int .i64 0, .int .i64 (-1)]) ∧ TyAt (strike (· < w.heap.size) w') l t) ∨
   (∃ (b j : Nat), atR S i = .err b j ∧ b ≠ 0 ∧ e = .returned (.tuple #[.agg #[.int .i64 0, .string ⟨#[]⟩, .int .i64 0, .string ⟨#[]⟩, .string ⟨#[]⟩, .slice none 0 0, .slice none 0 0], .int .i64 0, .int .i64 b, .int .i64 j])))

end Go.Proofs.YtapjhmfbmkckaaaGreatDoor

/- Plain mathematics for layer 3: what stands at a place of a text (a blank, a remark, a word, a number, a sign, or nothing), and what all of it comes to. Nothing of any program. -/
namespace Go.Proofs.YtapjhmfbmkckaaaGreatDoor.M

def blankC (n : Int) : Bool := n == 32 || n == 9 || n == 10
def lineC (n : Int) : Bool := !(n == 10)
def signs : List Int := [123, 125, 40, 41, 91, 93, 60, 62, 44, 58, 46, 61]
def signC (n : Int) : Bool := signs.contains n

/-- The first place from i on, of which the byte is not of that kind. -/
def stop (g : Int → Bool) (l : List UInt8) (i : Nat) : Nat := i + ((l.drop i).takeWhile fun c => g (c.toNat : Int)).length

/-- Do the two bytes at a place make a sign of two? -/
def twoC (a b : Int) : Bool := (a == 45 && b == 62) || (a == 46 && b == 46)

/-- What stands at a place, by its first byte: its kind (0: passed by; 1 to 4: a token's; 5: nothing), and the place behind it. -/
def item (l : List UInt8) (i : Nat) : Nat × Nat :=
  if blankC (bt l i) = true then (0, i + 1)
  else if bt l i = 35 then (0, stop lineC l (i + 1))
  else if lowC (bt l i) = true then (1, stop anyC l (i + 1))
  else if upC (bt l i) = true then (2, stop anyC l (i + 1))
  else if digC (bt l i) = true then (3, stop digC l (i + 1))
  else if twoC (bt l i) (bt l (i + 1)) = true then (4, i + 2)
  else if signC (bt l i) = true then (4, i + 1)
  else (5, i)

structure Tok where
  kind : Nat
  place : Nat
  text : ByteArray

/-- What all from a place on comes to, with the tokens ahead of it; -1: nothing is at fault. -/
def finN (s : ByteArray) : Nat → Nat → List Tok → List Tok × Int
  | 0, _, acc => (acc, -1)
  | n + 1, i, acc =>
    if s.size ≤ i then (acc, -1)
    else if (item s.data.toList i).1 = 5 then ([], (i : Int))
    else if (item s.data.toList i).1 = 0 then finN s n (item s.data.toList i).2 acc
    else finN s n (item s.data.toList i).2 (acc ++ [⟨(item s.data.toList i).1, i, s.extract i (item s.data.toList i).2⟩])
def fin (s : ByteArray) (i : Nat) (acc : List Tok) : List Tok × Int := finN s (s.size - i) i acc

theorem bt_drop (l : List UInt8) (i j : Nat) : bt (l.drop i) j = bt l (i + j) := by
  unfold bt
  simp [List.getD_eq_getElem?_getD]
theorem bt_past (l : List UInt8) (j : Nat) (h : l.length ≤ j) : bt l j = 0 := by
  unfold bt
  rw [List.getD_eq_getElem?_getD, List.getElem?_eq_none h]
  rfl

theorem takeWhile_at (g : Int → Bool) (l : List UInt8) (n : Nat) (hn : n ≤ l.length) (h : ∀ j, j < n → g (bt l j) = true) (he : n = l.length ∨ g (bt l n) = false) :
    (l.takeWhile fun c => g (c.toNat : Int)).length = n := by
  induction l generalizing n with
  | nil => simp at hn; subst hn; rfl
  | cons c r ih =>
    rcases n with _ | n
    · rcases he with he | he
      · simp at he
      · have : g (c.toNat : Int) = false := he
        simp [this]
    · have h0 : g (c.toNat : Int) = true := h 0 (by omega)
      have e : ∀ j, bt (c :: r) (j + 1) = bt r j := fun j => by unfold bt; simp
      have he' : n = r.length ∨ g (bt r n) = false := by
        rw [← e]
        rcases he with he | he
        · left; simpa using he
        · right; exact he
      rw [List.takeWhile_cons, if_pos h0, List.length_cons, ih n (by simpa using hn) (fun j hj => by rw [← e]; exact h (j + 1) (by omega)) he']
theorem stop_eq (g : Int → Bool) (l : List UInt8) (i k : Nat) (hi : i ≤ k) (hk : k ≤ l.length) (h : ∀ j, i ≤ j → j < k → g (bt l j) = true) (he : k = l.length ∨ g (bt l k) = false) : stop g l i = k := by
  unfold stop
  rw [takeWhile_at g (l.drop i) (k - i) (by simp; omega) (fun j hj => by rw [bt_drop]; exact h _ (by omega) (by omega)) (by
    rcases he with he | he
    · left; simp; omega
    · right; rw [bt_drop, show i + (k - i) = k by omega]; exact he)]
  omega
theorem stop_ge (g : Int → Bool) (l : List UInt8) (i : Nat) : i ≤ stop g l i := by unfold stop; omega
theorem stop_le (g : Int → Bool) (l : List UInt8) (i : Nat) (h : i ≤ l.length) : stop g l i ≤ l.length := by
  unfold stop
  have := (List.takeWhile_sublist (fun c : UInt8 => g (c.toNat : Int)) (l := l.drop i)).length_le
  simp at this
  omega
theorem stop_step (g : Int → Bool) (l : List UInt8) (i : Nat) (h : i < l.length) (hg : g (bt l i) = true) : stop g l i = stop g l (i + 1) := by
  unfold stop
  rw [List.drop_eq_getElem_cons h, List.takeWhile_cons]
  have : g (l[i].toNat : Int) = true := by
    unfold bt at hg
    rwa [List.getD_eq_getElem?_getD, List.getElem?_eq_getElem h] at hg
  rw [if_pos this]
  simp
  omega
theorem stop_drop (g : Int → Bool) (l : List UInt8) (i j : Nat) : i + stop g (l.drop i) j = stop g l (i + j) := by
  unfold stop
  rw [List.drop_drop]
  omega

/-- What stands at a place, seen from there. -/
theorem item_drop (l : List UInt8) (i : Nat) : item l i = ((item (l.drop i) 0).1, i + (item (l.drop i) 0).2) := by
  unfold item
  simp only [bt_drop, Nat.add_zero, Nat.zero_add]
  have e : ∀ g, stop g l (i + 1) = i + stop g (l.drop i) 1 := fun g => (stop_drop g l i 1).symm
  simp only [e]
  (repeat' split) <;> simp

theorem item_gt (l : List UInt8) (i : Nat) (h : (item l i).1 ≠ 5) : i < (item l i).2 := by
  unfold item at *
  have h1 := stop_ge lineC l (i + 1)
  have h2 := stop_ge anyC l (i + 1)
  have h3 := stop_ge digC l (i + 1)
  revert h
  (repeat' split) <;> simp <;> omega
theorem item_le (l : List UInt8) (i : Nat) (hi : i < l.length) : (item l i).2 ≤ l.length := by
  unfold item
  have h1 := stop_le lineC l (i + 1) (by omega)
  have h2 := stop_le anyC l (i + 1) (by omega)
  have h3 := stop_le digC l (i + 1) (by omega)
  (repeat' split) <;> try (simp; omega)
  rename_i h
  have : i + 1 < l.length := by
    rcases Nat.lt_or_ge (i + 1) l.length with a | a
    · exact a
    · rw [bt_past l (i + 1) a] at h
      simp [twoC] at h
  simp; omega
theorem item_kind (l : List UInt8) (i : Nat) : (item l i).1 ≤ 5 := by
  unfold item
  (repeat' split) <;> simp

theorem finN_same (s : ByteArray) : ∀ (n m i : Nat) (acc : List Tok), s.size - i ≤ n → s.size - i ≤ m → finN s n i acc = finN s m i acc
  | 0, 0, _, _, _, _ => rfl
  | 0, m + 1, i, acc, h, _ => by
    have : s.size ≤ i := by omega
    simp [finN, this]
  | n + 1, 0, i, acc, _, h => by
    have : s.size ≤ i := by omega
    simp [finN, this]
  | n + 1, m + 1, i, acc, h1, h2 => by
    unfold finN
    by_cases a : s.size ≤ i
    · simp [a]
    · by_cases b : (item s.data.toList i).1 = 5
      · simp [a, b]
      · have g := item_gt s.data.toList i b
        by_cases c : (item s.data.toList i).1 = 0
        · simp only [a, c, if_false, if_true]
          exact finN_same s n m _ _ (by omega) (by omega)
        · simp only [a, b, c, if_false]
          exact finN_same s n m _ _ (by omega) (by omega)
theorem fin_end (s : ByteArray) (i : Nat) (acc : List Tok) (h : s.size ≤ i) : fin s i acc = (acc, -1) := by
  unfold fin
  rw [show s.size - i = 0 by omega]
  rfl
theorem fin_step (s : ByteArray) (i : Nat) (acc : List Tok) (h : i < s.size) :
    fin s i acc = if (item s.data.toList i).1 = 5 then ([], (i : Int)) else if (item s.data.toList i).1 = 0 then fin s (item s.data.toList i).2 acc
      else fin s (item s.data.toList i).2 (acc ++ [⟨(item s.data.toList i).1, i, s.extract i (item s.data.toList i).2⟩]) := by
  have e : s.size - i = (s.size - i - 1) + 1 := by omega
  unfold fin
  rw [e]
  conv => lhs; unfold finN
  rw [if_neg (by omega)]
  by_cases b : (item s.data.toList i).1 = 5
  · simp [b]
  · have g := item_gt s.data.toList i b
    by_cases c : (item s.data.toList i).1 = 0
    · simp only [c, if_true]
      rw [if_neg (by omega), if_neg (by omega)]
      exact finN_same s _ _ _ _ (by omega) (by omega)
    · simp only [b, c, if_false]
      exact finN_same s _ _ _ _ (by omega) (by omega)
theorem fin_skip {s : ByteArray} {i k : Nat} (acc : List Tok) (h : i < s.size) (e : item s.data.toList i = (0, k)) : fin s i acc = fin s k acc := by
  rw [fin_step s i acc h, e]; simp
theorem fin_bad {s : ByteArray} {i k : Nat} (acc : List Tok) (h : i < s.size) (e : item s.data.toList i = (5, k)) : fin s i acc = ([], (i : Int)) := by
  rw [fin_step s i acc h, e]; simp
theorem fin_tok {s : ByteArray} {i k c : Nat} (acc : List Tok) (h : i < s.size) (e : item s.data.toList i = (c, k)) (c0 : c ≠ 0) (c5 : c ≠ 5) : fin s i acc = fin s k (acc ++ [⟨c, i, s.extract i k⟩]) := by
  rw [fin_step s i acc h, e]; simp [c0, c5]
theorem fin_at (s : ByteArray) (n : Nat) : ∀ (i : Nat) (acc : List Tok), s.size - i ≤ n → (fin s i acc).2 = -1 ∨ ∃ k : Nat, k < s.size ∧ fin s i acc = ([], (k : Int)) := by
  induction n with
  | zero => intro i acc h; left; rw [fin_end s i acc (by omega)]
  | succ n ih =>
    intro i acc h
    rcases Nat.lt_or_ge i s.size with a | a
    · rw [fin_step s i acc a]
      by_cases b : (item s.data.toList i).1 = 5
      · right; exact ⟨i, a, by simp [b]⟩
      · have g := item_gt s.data.toList i b
        by_cases c : (item s.data.toList i).1 = 0
        · simp only [c, if_true]
          rw [if_neg (by omega)]
          exact ih _ _ (by omega)
        · simp only [b, c, if_false]
          exact ih _ _ (by omega)
    · left; rw [fin_end s i acc a]

end Go.Proofs.YtapjhmfbmkckaaaGreatDoor.M

/- Plain mathematics for layer 3, second part: texts of one byte, pieces of a text, a line's end, the signs, as the library's own functions tell them. -/
namespace Go.Proofs.YtapjhmfbmkckaaaGreatDoor.M
open Go

theorem list_one {l : List UInt8} (h : l.length = 1) : ∃ c, l = [c] := by
  match l, h with
  | [c], _ => exact ⟨c, rfl⟩
theorem arr_one {s : ByteArray} (h : s.size = 1) : ∃ c : UInt8, s = ⟨#[c]⟩ := by
  obtain ⟨c, hc⟩ := list_one (l := s.data.toList) (by simpa using h)
  refine ⟨c, ?_⟩
  cases s with
  | mk d => cases d with
    | mk l => simp at hc; subst hc; rfl
theorem bt_one (c : UInt8) : bt [c] 0 = (c.toNat : Int) := rfl

theorem key_one (c : UInt8) : keyB [c] = false := by
  unfold keyB keys
  simp
theorem word_one (c : UInt8) : wordB [c] = false := by
  unfold wordB words
  simp
theorem small_one {s : ByteArray} (h : s.size = 1) : smallB s.data.toList = lowC (bt s.data.toList 0) := by
  obtain ⟨c, rfl⟩ := arr_one h
  simp [smallB, key_one, spell, bt]
theorem great_one {s : ByteArray} (h : s.size = 1) : greatB s.data.toList = upC (bt s.data.toList 0) := by
  obtain ⟨c, rfl⟩ := arr_one h
  simp [greatB, word_one, spell, bt]

/-- One byte of a text, cut out. -/
theorem piece_size (s : ByteArray) (k : Nat) (h : k < s.size) : (s.extract k (k + 1)).size = 1 := by
  simp
  omega
theorem piece_bt (s : ByteArray) (k : Nat) : bt (s.extract k (k + 1)).data.toList 0 = bt s.data.toList k := by
  unfold bt
  simp only [List.getD_eq_getElem?_getD, ByteArray.data_extract, Array.toList_extract, List.extract]
  rw [List.getElem?_take_of_lt (by omega), List.getElem?_drop]
  simp
theorem tail_list (s : ByteArray) (k : Nat) : (s.extract k s.size).data.toList = s.data.toList.drop k := Lib.extract_to_end s k
theorem tail_size (s : ByteArray) (k : Nat) : (s.extract k s.size).size = s.size - k := by
  simp

theorem line_iff (c : UInt8) : lineC (c.toNat : Int) = !(c == 10) := by
  unfold lineC
  congr 1
  rw [Bool.eq_iff_iff]
  simp [← UInt8.toNat_inj]
  omega
theorem bt_get (l : List UInt8) (j : Nat) (c : UInt8) (h : l[j]? = some c) : bt l j = (c.toNat : Int) := by
  unfold bt; rw [List.getD_eq_getElem?_getD, h]; rfl
theorem line_none (l : List UInt8) (k : Nat) (hk : k ≤ l.length) (h : Lib.indexByte (l.drop k) 10 = -1) : stop lineC l k = l.length := by
  refine stop_eq _ _ _ _ hk (Nat.le_refl _) (fun j h1 h2 => ?_) (.inl rfl)
  have := Lib.indexByte_none h (j - k)
  rw [List.getElem?_drop, show k + (j - k) = j by omega, List.getElem?_eq_getElem h2] at this
  rw [bt_get l j _ (List.getElem?_eq_getElem h2), line_iff]
  simpa using this
theorem line_some (l : List UInt8) (k o : Nat) (h : Lib.indexByte (l.drop k) 10 = o) : stop lineC l k = k + o ∧ k + o < l.length := by
  obtain ⟨h1, h2⟩ := Lib.indexByte_some h
  rw [List.getElem?_drop] at h1
  have hlt : k + o < l.length := by
    rcases Nat.lt_or_ge (k + o) l.length with a | a
    · exact a
    · rw [List.getElem?_eq_none a] at h1; cases h1
  refine ⟨stop_eq _ _ _ _ (by omega) (by omega) (fun j h3 h4 => ?_) (.inr ?_), hlt⟩
  · have := h2 (j - k) (by omega)
    rw [List.getElem?_drop, show k + (j - k) = j by omega, List.getElem?_eq_getElem (by omega)] at this
    rw [bt_get l j _ (List.getElem?_eq_getElem (by omega)), line_iff]
    simpa using this
  · rw [bt_get l _ _ h1, line_iff]; rfl
theorem index_cases (l : List UInt8) (c : UInt8) : Lib.indexByte l c = -1 ∨ ∃ o : Nat, Lib.indexByte l c = o := by
  have := Lib.indexByte_ge l c
  rcases Int.lt_or_le (Lib.indexByte l c) 0 with a | a
  · left; omega
  · right; exact ⟨(Lib.indexByte l c).toNat, by omega⟩

theorem pre_two (a b : UInt8) (hb : b ≠ 0) (ha : a ≠ 0) (l : List UInt8) : Lib.hasPrefix l [a, b] = (bt l 0 == (a.toNat : Int) && bt l 1 == (b.toNat : Int)) := by
  unfold Lib.hasPrefix bt
  have e : ∀ x y : UInt8, (x == y) = ((y.toNat : Int) == (x.toNat : Int)) := fun x y => by
    rw [Bool.eq_iff_iff]; simp [← UInt8.toNat_inj]; omega
  match l with
  | [] => simp [List.isPrefixOf]; intro h; exact absurd (UInt8.toNat_inj.1 (by simpa using h.symm)) ha
  | [x] => simp [List.isPrefixOf]; intro _ h; exact absurd (UInt8.toNat_inj.1 (by simpa using h.symm)) hb
  | x :: y :: r => simp [List.isPrefixOf, e a x, e b y]
theorem sign_iff (c : UInt8) : ([123, 125, 40, 41, 91, 93, 60, 62, 44, 58, 46, 61] : List UInt8).contains c = signC (c.toNat : Int) := by
  unfold signC signs
  rw [Bool.eq_iff_iff]
  simp [← UInt8.toNat_inj]
  omega

end Go.Proofs.YtapjhmfbmkckaaaGreatDoor.M

/- Walks of package lex: which text of one byte is a letter, a digit, may stand in a word; how long a run of such is; signs; where a line ends. -/
namespace Go.Proofs.YtapjhmfbmkckaaaGreatDoor
open Go.RowKit
open M

theorem ret_nat {a b : Nat} (h : b = a) : Ending.returned (.int .i64 (a : Int)) = .returned (.int .i64 (b : Int)) := by rw [h]
theorem one_le {s : ByteArray} (h : s.size = 1) : s.size ≤ 9223372036854775807 := by omega

theorem any_parts {n : Int} {b : Bool} (h : anyC n = b) : (lowC n || (upC n || digC n)) = b := by
  rw [← h]; unfold anyC; rw [Bool.or_assoc]
end Go.Proofs.YtapjhmfbmkckaaaGreatDoor

/- Walks of package lex: the sign, the token that a text begins with, and what is passed by. -/
namespace Go.Proofs.YtapjhmfbmkckaaaGreatDoor
open Go.RowKit
open M

/-- How many bytes a sign has, by the first two. -/
def signN (a b : Int) : Nat := if twoC a b = true then 2 else if signC a = true then 1 else 0

theorem two_parts (a b : Int) : twoC a b = ((a == 45 && b == 62) || (a == 46 && b == 46)) := rfl
theorem dash_gt (s : ByteArray) : Lib.hasPrefix s.data.toList (⟨#[45, 62]⟩ : ByteArray).data.toList = (bt s.data.toList 0 == 45 && bt s.data.toList 1 == 62) := pre_two 45 62 (by decide) (by decide) _
theorem dot_dot (s : ByteArray) : Lib.hasPrefix s.data.toList (⟨#[46, 46]⟩ : ByteArray).data.toList = (bt s.data.toList 0 == 46 && bt s.data.toList 1 == 46) := pre_two 46 46 (by decide) (by decide) _
theorem sign_ix (s : ByteArray) (h : 0 < s.size) : signC (bt s.data.toList 0) = decide ((0 : Int) ≤ Lib.indexByte ([123, 125, 40, 41, 91, 93, 60, 62, 44, 58, 46, 61] : List UInt8) ((s[0].toNat : Int)).toNat.toUInt8) := by
  rw [← Lib.contains_iff_indexByte, ← bt_eq s 0 h, ← sign_iff]
  congr 1
  simp

/-- What 'first' tells of what stands at a text's begin. -/
def firstK (m : List UInt8) : Nat := if (item m 0).1 = 5 then 4 else (item m 0).1
def firstN (m : List UInt8) : Nat := if (item m 0).1 = 5 then 0 else (item m 0).2

theorem low_not {n : Int} (h : lowC n = true) : blankC n = false ∧ (n = 35) = False := by
  unfold lowC blankC at *
  simp at *; omega
theorem up_not {n : Int} (h : upC n = true) : blankC n = false ∧ (n = 35) = False := by
  unfold upC blankC at *
  simp at *; omega
theorem dig_not {n : Int} (h : digC n = true) : blankC n = false ∧ (n = 35) = False := by
  unfold digC blankC at *
  simp at *; omega
theorem any_of_low {n : Int} (h : lowC n = true) : anyC n = true := by unfold anyC; rw [h]; rfl
theorem any_of_up {n : Int} (h : upC n = true) : anyC n = true := by unfold anyC; rw [h]; simp
theorem first_low (m : List UInt8) (hl : 0 < m.length) (h : lowC (bt m 0) = true) : firstK m = 1 ∧ firstN m = stop anyC m 0 := by
  obtain ⟨a, b⟩ := low_not h
  unfold firstK firstN item
  simp [a, b, h, stop_step anyC m 0 hl (any_of_low h)]
theorem first_up (m : List UInt8) (hl : 0 < m.length) (h1 : lowC (bt m 0) = false) (h : upC (bt m 0) = true) : firstK m = 2 ∧ firstN m = stop anyC m 0 := by
  obtain ⟨a, b⟩ := up_not h
  unfold firstK firstN item
  simp [a, b, h, h1, stop_step anyC m 0 hl (any_of_up h)]
theorem first_dig (m : List UInt8) (hl : 0 < m.length) (h1 : lowC (bt m 0) = false) (h2 : upC (bt m 0) = false) (h : digC (bt m 0) = true) : firstK m = 3 ∧ firstN m = stop digC m 0 := by
  obtain ⟨a, b⟩ := dig_not h
  unfold firstK firstN item
  simp [a, b, h, h1, h2, stop_step digC m 0 hl h]
theorem first_sign (m : List UInt8) (h0 : (item m 0).1 ≠ 0) (h1 : lowC (bt m 0) = false) (h2 : upC (bt m 0) = false) (h : digC (bt m 0) = false) : firstK m = 4 ∧ firstN m = signN (bt m 0) (bt m 1) := by
  unfold firstK firstN signN item at *
  by_cases a : blankC (bt m 0) = true
  · simp [a] at h0
  by_cases b : bt m 0 = 35
  · rw [b] at h0; simp [blankC] at h0
  by_cases c : twoC (bt m 0) (bt m 1) = true
  · simp [a, b, h1, h2, h, c]
  by_cases d : signC (bt m 0) = true
  · simp [a, b, h1, h2, h, c, d]
  · simp [a, b, h1, h2, h, c, d]

theorem head_size (s : ByteArray) (h : 0 < s.size) : (s.extract 0 1).size = 1 := piece_size s 0 h
theorem head_bt (s : ByteArray) : bt (s.extract 0 1).data.toList 0 = bt s.data.toList 0 := piece_bt s 0

/-- From i to k all is passed by, and at k stands what isn't. -/
def Passed (s : ByteArray) (i k : Nat) : Prop := ∀ acc, fin s i acc = fin s k acc
def PassPost (s : ByteArray) (i : Nat) (w : World) (e : Ending) (w' : World) : Prop :=
  ∃ k : Nat, e = .returned (.int .i64 k) ∧ w = w' ∧ i ≤ k ∧ k ≤ s.size ∧ Passed s i k ∧ (k < s.size → (item s.data.toList k).1 ≠ 0)

theorem item_blank (l : List UInt8) (k : Nat) (x : Int) (e : bt l k = x) (h : x = 32 ∨ x = 9 ∨ x = 10) : item l k = (0, k + 1) := by
  unfold item blankC
  subst e
  rcases h with h | h | h <;> simp [h]
theorem item_rem (l : List UInt8) (k : Nat) (h : bt l k = 35) : item l k = (0, stop lineC l (k + 1)) := by
  unfold item blankC
  simp [h]
theorem item_rem' (l : List UInt8) (k : Nat) (hk : k < l.length) (h : bt l k = 35) : item l k = (0, stop lineC l k) := by
  rw [item_rem l k h, stop_step lineC l k hk (by rw [h]; rfl)]
theorem item_not (l : List UInt8) (k : Nat) (x : Int) (e : bt l k = x) (h1 : x ≠ 32) (h2 : x ≠ 9) (h3 : x ≠ 10) (h4 : x ≠ 35) : (item l k).1 ≠ 0 := by
  unfold item blankC
  subst e
  simp only [h4]
  (repeat' split) <;> simp_all

end Go.Proofs.YtapjhmfbmkckaaaGreatDoor

/- The walk of package lex's Tokens: the tokens of any text that isn't too long, or where nothing stands. -/
namespace Go.Proofs.YtapjhmfbmkckaaaGreatDoor
open Go.RowKit
open M

/-- A token's three cells, and those of a list of tokens. -/
def tokCells (t : Tok) : List Value := [.int .i64 (t.kind : Int), .int .i64 (t.place : Int), .string t.text]
def rowCells (ts : List Tok) : List Value := ts.flatMap tokCells
theorem rowCells_snoc (ts : List Tok) (t : Tok) : rowCells (ts ++ [t]) = rowCells ts ++ tokCells t := by
  unfold rowCells; simp
theorem rowCells_length (ts : List Tok) : (rowCells ts).length = ts.length * 3 := by
  unfold rowCells
  induction ts with
  | nil => rfl
  | cons t r ih => simp only [List.flatMap_cons, List.length_append, ih, List.length_cons]; simp [tokCells]; omega

theorem own_below {w w' : World} {base : Nat} {e : TypeId} {size : Nat} {v : Value} {n : Nat} {xs : List Value} (h : w.ownsRow base e size v n xs) (hb : Below w.heap.size w w') : w'.ownsRow base e size v n xs := by
  refine ⟨h.1, ?_⟩
  rcases h.2 with hn | ⟨g, cap, cur, rfl, hbase, hgg, rest⟩
  · exact .inl hn
  · refine .inr ⟨g, cap, cur, rfl, hbase, ?_, rest⟩
    rw [hb.block g (Array.getElem?_eq_some_iff.1 hgg).1]
    exact hgg

set_option maxHeartbeats 400000 in
theorem clone_any (s : ByteArray) (w : World) (hs : s.size ≤ 281474976710656) : Calls Tryz.prog 50 #[.string s] w fun e w' => e = .returned (.string s) ∧ Below w.heap.size w w' := by
  go_enter Tryz.func50, Tryz.ntmps50
  go_wp2_with fail
  refine (Tryz.stringslite_Clone _ _ hs).mono ?_; rintro e w1 ⟨rfl, hb1⟩
  go_wp2
  go_ret
  exact ⟨rfl, hb1⟩
/-- What 'first' tells at a place, where a token stands: its kind and its size. -/
theorem first_tok (l : List UInt8) (k : Nat) (hk : k < l.length) (h5 : (item l k).1 ≠ 5) : ∃ z : Nat, firstK (l.drop k) = (item l k).1 ∧ firstN (l.drop k) = z ∧ 0 < z ∧ k + z ≤ l.length ∧ item l k = ((item l k).1, k + z) := by
  have e := item_drop l k
  have g := item_gt l k h5
  have q := item_le l k hk
  have e1 : (item l k).1 = (item (l.drop k) 0).1 := by rw [e]
  have e2 : (item l k).2 = k + (item (l.drop k) 0).2 := by rw [e]
  refine ⟨(item (l.drop k) 0).2, ?_, ?_, by omega, by omega, ?_⟩
  · unfold firstK; rw [← e1, if_neg h5]
  · unfold firstN; rw [← e1, if_neg h5]
  · rw [← e2]
theorem first_none (l : List UInt8) (k : Nat) (h5 : (item l k).1 = 5) : firstN (l.drop k) = 0 := by
  have e := item_drop l k
  have e1 : (item l k).1 = (item (l.drop k) 0).1 := by rw [e]
  unfold firstN; rw [← e1, if_pos h5]

theorem item_drop_kind (l : List UInt8) (k : Nat) (h : (item l k).1 ≠ 0) : (item (l.drop k) 0).1 ≠ 0 := by
  have e := item_drop l k
  rw [e] at h; exact h

end Go.Proofs.YtapjhmfbmkckaaaGreatDoor

/- Tokens' answers in the words that a caller needs. -/
namespace Go.Proofs.YtapjhmfbmkckaaaGreatDoor
open Go.RowKit
open M

/-- A slice's cells hold these tokens. -/
def RowAt (w : World) (A : Option Addr) (ts : List Tok) : Prop :=
  ∀ i t, ts[i]? = some t → ∃ g, A = some ⟨g, 0, none⟩ ∧ g < w.heap.size ∧ w.cell? ⟨g, i * 3, none⟩ = some (.int .i64 (t.kind : Int)) ∧ w.cell? ⟨g, i * 3 + 1, none⟩ = some (.int .i64 (t.place : Int)) ∧ w.cell? ⟨g, i * 3 + 2, none⟩ = some (.string t.text)
theorem RowAt.below {w w' : World} {A : Option Addr} {ts : List Tok} (h : RowAt w A ts) (hb : Below w.heap.size w w') : RowAt w' A ts := by
  intro i t ht
  obtain ⟨g, hA, hg, h0, h1, h2⟩ := h i t ht
  exact ⟨g, hA, Nat.lt_of_lt_of_le hg hb.size, (hb.cell (p := ⟨g, _, none⟩) hg).trans h0, (hb.cell (p := ⟨g, _, none⟩) hg).trans h1, (hb.cell (p := ⟨g, _, none⟩) hg).trans h2⟩
theorem rowCells_at (ts : List Tok) (i j : Nat) (t : Tok) (h : ts[i]? = some t) (hj : j < 3) : (rowCells ts)[i * 3 + j]? = (tokCells t)[j]? := by
  unfold rowCells
  induction ts generalizing i with
  | nil => simp at h
  | cons a r ih =>
    rw [List.flatMap_cons]
    rcases i with _ | i
    · simp at h; subst h
      rw [List.getElem?_append_left (by simp [tokCells]; omega)]
      simp
    · rw [List.getElem?_append_right (by simp [tokCells]; omega)]
      have : (i + 1) * 3 + j - (tokCells a).length = i * 3 + j := by simp [tokCells]; omega
      rw [this]
      exact ih i (by simpa using h)
end Go.Proofs.YtapjhmfbmkckaaaGreatDoor
