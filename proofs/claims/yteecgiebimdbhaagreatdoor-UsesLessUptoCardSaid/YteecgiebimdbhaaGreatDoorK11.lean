/-
  Several texts in one.
-/
import Derived.Test.YteecgiebimdbhaaGreatDoorK10
import Derived.Lib.AppendStr
import Derived.Lib.UnsafeStr
import Derived.Lib.OthersKept
import Derived.Laws.Externs
import Derived.Maps.AppendAt
import Derived.Maps.OwnSet
set_option maxRecDepth 100000
set_option maxHeartbeats 8000000
namespace Go.Proofs.YteecgiebimdbhaaGreatDoor
open Go.RowKit
open Go.Sort
open M
theorem indexD_any (A : Option Addr) (c n : Nat) (xs : List De) (w : World) (hn : xs.length = n) (hz : n <= 9223372036854775807) (hS : RowIn deR w A xs) :
    Calls Tryz.prog 285 #[.slice A n c, .func (.func 268) #[] #[]] w fun e w' => ∃ r : Int, e = .returned (.int .i64 r) /\ decide (0 <= r) = !xs.all mayD /\ Below w.heap.size w w' := by
  have HS := hZ hS;have HN := hZ hn;clear hS hn;go_enter Tryz.func285, Tryz.ntmps285
  go_wp2_with fail
  go_loopw [8] (fun i wr => ∃ k : Nat, k <= n /\ i = .int .i64 k /\ Hid ((xs.take k).all mayD = true) /\ Below w.heap.size w wr) (fun i _ => n - (intOf i).toNat)
  case atStart => exact ⟨0, by omega, rfl, hZ (by simp), Below.refl _ _⟩
  case round =>
    obtain ⟨k, hk, rfl, HP, hb⟩ := hrel;obtain ⟨wo, rfl⟩ : ∃ wo : World, wo = wr := ⟨_, rfl⟩;by_cases hlt : k < n
    · obtain ⟨x, hx⟩ : ∃ x, xs[k]? = some x := ⟨_, List.getElem?_eq_getElem (by rw [HN.out]; exact hlt)⟩
      obtain ⟨g, o, v0, v1, v2, v3, v4, v5, v6, rfl, -, a0, a1, u0, u1, u2, u3, u4, u5, u6, us, zs⟩ := (HS.out.below hb).de hx;obtain ⟨An, cA, As, cS, ev, -⟩ := us.parts;simp only [List.cons.injEq, and_true] at ev;obtain ⟨rfl, rfl, rfl, rfl, rfl, rfl, rfl⟩ := ev;have IM := hZ (cmayNotD_any x.kind x.name x.typ An As cA cS wo us zs);have HX := hZ hx;clear hx us zs;obtain ⟨q, hq⟩ : ∃ q, mayD ⟨x.kind, x.name, x.typ⟩ = q := ⟨_, rfl⟩;rw [hq] at IM;have HQ := hZ hq;clear hq;cases q with
      | false =>
        have R : Hid (decide (0 <= (k : Int)) = !xs.all mayD) := hZ (by
          have : xs.all mayD = false := by rw [List.all_eq_false]; exact ⟨x, List.mem_of_getElem? HX.out, by rw [show mayD x = false from HQ.out]; decide⟩
          rw [this]; simp)
        go_wp2_with fail
        refine IM.out.mono ?_; rintro e w2 ⟨rfl, hb2⟩
        have hb3 := below_over hb hb2;clear a0 a1 u0 u1 u2 u3 u4 u5 u6 hb hb2;go_wp2_with fail
        go_ret;exact ⟨_, rfl, R.out, hb3⟩
      | true =>
        go_wp2_with fail
        refine IM.out.mono ?_; rintro e w2 ⟨rfl, hb2⟩
        have hb3 := below_over hb hb2;clear a0 a1 u0 u1 u2 u3 u4 u5 u6 hb hb2;go_wp2_with fail
        go_roundw
        case rel => exact ⟨k + 1, by omega, by go_num, hZ (by rw [all_snoc _ _ _ _ HX.out, HP.out, show mayD x = true from HQ.out]; rfl), hb3⟩
        case measure => simp [intOf]; omega
    · have R : Hid (decide (0 <= (-1 : Int)) = !xs.all mayD) := hZ (by
        have h := HP.out;rw [List.take_of_length_le (by rw [HN.out]; omega)] at h;rw [h]; rfl)
      go_wp2_with fail
      go_ret;exact ⟨_, rfl, R.out, hb⟩
theorem containsD_any (A : Option Addr) (c n : Nat) (xs : List De) (w : World) (hn : xs.length = n) (hz : n <= 9223372036854775807) (hS : RowIn deR w A xs) :
    Calls Tryz.prog 267 #[.slice A n c, .func (.func 268) #[] #[]] w fun e w' => e = .returned (.bool (!xs.all mayD)) /\ Below w.heap.size w w' := by
  have HC := hZ (indexD_any A c n xs w hn hz hS);clear hn hS;go_enter Tryz.func267, Tryz.ntmps267
  go_wp2_with fail
  refine HC.out.mono ?_; rintro e w2 ⟨r, rfl, hr, hb2⟩
  have HR := hZ hr;clear hr HC;go_wp2_with fail
  go_ret;exact ⟨ret_bool HR.out.symm, hb2⟩
theorem cmay6_any (m : Mo) (l : List Value) (w : World) (h : MoAt w l m) : Calls Tryz.prog 238 #[.agg l.toArray] w fun e w' => e = .returned (.bool (mayM m)) /\ Below w.heap.size w w' := by
  obtain ⟨Ai, ci, Ad, cd, rfl, z1, z2, z3, hI, hD⟩ := h;obtain ⟨w0, hw0⟩ : ∃ w0, w0 = w.alloc (.cells #[.string m.name, .slice Ai m.imps.length ci, .slice Ad m.decs.length cd] 139) := ⟨_, rfl⟩;have B0 : Below w.heap.size w w0 := by rw [hw0]; exact below_new (Below.refl _ _) _
  have O0 : w0.heap[w.heap.size]? = some (.cells #[.string m.name, .slice Ai m.imps.length ci, .slice Ad m.decs.length cd] 139 (0, 0)) := by rw [hw0]; exact heap_alloc_new w _
  have hl0 : w.heap.size < w0.heap.size := by rw [hw0]; simp
  have S0 := hZ (fun w => csmall_b m.name w z1);have SI : Hid (∀ w', Below w.heap.size w w' -> Calls Tryz.prog 29 #[.slice Ai m.imps.length ci] w' fun e w'' => e = .returned (.bool (decide (m.imps.length <= 20) && m.imps.all mayI)) /\ Below w'.heap.size w' w'') := hZ (fun w' hb => cmayI_any Ai ci _ m.imps w' rfl z2 (hI.below hb));have SD : Hid (∀ w', Below w.heap.size w w' -> Calls Tryz.prog 267 #[.slice Ad m.decs.length cd, .func (.func 268) #[] #[]] w' fun e w'' => e = .returned (.bool (!m.decs.all mayD)) /\ Below w'.heap.size w' w'') := hZ (fun w' hb => containsD_any Ad cd _ m.decs w' rfl z3 (hD.below hb));obtain ⟨V, hV⟩ : ∃ V, mayM m = V := ⟨_, rfl⟩;rw [hV];have HV : Hid ((smallB m.name.data.toList && (decide (m.imps.length <= 20) && (decide (m.decs.length <= 60) && (m.imps.all mayI && m.decs.all mayD)))) = V) := hZ hV;generalize m.imps.length = ni at *
  generalize m.decs.length = nd at *
  generalize smallB m.name.data.toList = b0 at S0 HV
  generalize m.imps.all mayI = b1 at SI HV
  generalize m.decs.all mayD = b2 at SD HV
  have HV0 : Hid ((b0 && ((decide (ni <= 20) && b1) && (decide (nd <= 60) && b2))) = V) := hZ (by
    rw [<- HV.out];cases b0 <;> cases b1 <;> cases b2 <;> cases decide (ni <= 20) <;> cases decide (nd <= 60) <;> rfl)
  generalize (decide (ni <= 20) && b1) = q at SI HV0
  have x0 := cZ O0 0;simp at x0;have HO := hZ O0;have HB := hZ B0;have HW0 := hZ hw0;clear hV hI hD hw0 B0 O0 z1 z2 HV;go_enter Tryz.func238, Tryz.ntmps238
  go_upto_region 1 with fail
  rw [<- HW0.out];clear HW0;go_wp2_with fail
  refine (S0.out _).mono ?_; rintro e w1 ⟨rfl, hb1⟩
  have O1 := (hb1.block _ hl0).trans HO.out;have x1 := cZ O1 1;simp at x1;have HB1 := hZ (below_over HB.out hb1);have hl1 := Nat.lt_of_lt_of_le hl0 hb1.size;clear x0 hb1 HB HO hl0 S0;cases b0 with
  | false => go_wp2_with fail; go_ret; exact ⟨by rw [<- HV0.out]; rfl, HB1.out⟩
  | true =>
  go_wp2_with fail
  refine (SI.out _ HB1.out).mono ?_; rintro e w2 ⟨rfl, hb2⟩
  have O2 := (hb2.block _ hl1).trans O1;have x2 := cZ O2 2;simp at x2;have HB2 := hZ (below_over HB1.out hb2);clear x1 hb2 HB1 O1 O2 hl1 SI;cases q with
  | false => go_wp2_with fail; go_ret; exact ⟨by rw [<- HV0.out]; rfl, HB2.out⟩
  | true =>
  by_cases hd : nd <= 60
  rotate_left
  · have e1 : ¬ (nd : Int) <= 60 := by omega
    go_wp2_with fail
    go_ret;exact ⟨by rw [<- HV0.out, decide_eq_false hd]; simp <;> omega, HB2.out⟩
  have e1 : (nd : Int) <= 60 := by omega
  go_wp2_with fail
  refine (SD.out _ HB2.out).mono ?_; rintro e w3 ⟨rfl, hb3⟩
  have HB3 := hZ (below_over HB2.out hb3);have HV3 : Hid (b2 = V) := hZ (by rw [<- HV0.out, decide_eq_true hd]; simp);clear x2 hb3 HB2 SD HV0;go_wp2_with fail
  go_ret;exact ⟨by rw [<- HV3.out]; cases b2 <;> simp, HB3.out⟩
theorem z46 : (⟨#[46]⟩ : ByteArray).size = 1 := rfl
end Go.Proofs.YteecgiebimdbhaaGreatDoor
namespace Go.Proofs.YteecgiebimdbhaaGreatDoor
open Go.RowKit
open M
def fewB (t : Ty) : Bool := decide (0 <= fewT t 3000)
theorem fewB_any (t : Ty) (v : Value) (w : World) (hv : TyV w v t) :
    Calls Tryz.prog 21 #[v] w fun e w' => e = .returned (.bool (fewB t)) /\ Below w.heap.size w w' := by
  have HV := hZ hv;obtain ⟨l, rfl, hT⟩ := hv;obtain ⟨An, cn, As, cs, rfl, -, -, -, -, -, -, -⟩ := hT.parts;clear hT;have bd := few_bd t 3000 (by omega);unfold fewB
  go_enter Tryz.func21, Tryz.ntmps21
  go_wp2_with fail
  refine (few_any _ t (Nat.le_refl _) 3000 (by omega) (by omega) _ _ (HV.out.below (by first | exact below_new (Below.refl _ _) _ | exact Below.refl _ _))).mono ?_; rintro e w1 ⟨rfl, hb1⟩
  go_wp2_with fail
  go_ret;refine ⟨rfl, ?_⟩;first | exact hb1 | exact (below_new (Below.refl _ _) _).trans (hb1.mono (by simp))
end Go.Proofs.YteecgiebimdbhaaGreatDoor
namespace Go.Proofs.YteecgiebimdbhaaGreatDoor
open Go.RowKit
open Go.Sort
open M
theorem all_one {α : Type} (p : α -> Bool) (l : List α) (j : Nat) (x : α) (h : l[j]? = some x) (hp : p x = false) : l.all p = false := by
  rw [List.all_eq_false];exact ⟨x, List.mem_of_getElem? h, by rw [hp]; decide⟩
end Go.Proofs.YteecgiebimdbhaaGreatDoor
namespace Go.Proofs.YteecgiebimdbhaaGreatDoor
open Go
open M
structure Ln where
  kind : Int
  mod : ByteArray
  name : ByteArray
  typ : Ty
structure Us where
  imps : List Im
  lines : List Ln
def kUse : List UInt8 := [117, 115, 101]
def kIs : List UInt8 := [105, 115]
def mayLn (l : Ln) : Bool := smallB l.mod.data.toList && (mayT l.typ && ((l.kind == 1) && smallB l.name.data.toList || (l.kind == 2) && greatB l.name.data.toList))
def mayU (u : Us) : Bool := decide (u.imps.length <= 20) && (decide (u.lines.length <= 60) && (u.imps.all mayI && u.lines.all mayLn))
def fewLn (l : Ln) : Bool := fewB l.typ && decide (l.name.size <= 500)
def fewU (u : Us) : Bool := decide (u.imps.length <= 100) && (decide (u.lines.length <= 100) && u.lines.all fewLn)
theorem mayLn_sorts {l : Ln} (h : mayLn l = true) : smallB l.mod.data.toList = true /\ mayT l.typ = true /\ ((l.kind = 1 /\ smallB l.name.data.toList = true) \/ (l.kind = 2 /\ greatB l.name.data.toList = true)) := by
  unfold mayLn at h
  simp only [Bool.and_eq_true, Bool.or_eq_true, beq_iff_eq] at h;exact h
theorem mayU_parts {u : Us} (h : mayU u = true) : u.imps.length <= 20 /\ u.lines.length <= 60 /\ (∀ x ∈ u.imps, mayI x = true) /\ ∀ l ∈ u.lines, mayLn l = true := by
  unfold mayU at h
  simp only [Bool.and_eq_true, decide_eq_true_eq, List.all_eq_true] at h;exact ⟨h.1, h.2.1, h.2.2.1, h.2.2.2⟩
theorem mayU_of {u : Us} (h1 : u.imps.length <= 20) (h2 : u.lines.length <= 60) (h3 : ∀ x ∈ u.imps, mayI x = true) (h4 : ∀ l ∈ u.lines, mayLn l = true) : mayU u = true := by
  unfold mayU
  simp only [Bool.and_eq_true, decide_eq_true_eq, List.all_eq_true];exact ⟨h1, h2, h3, h4⟩
def typL (k : Int) (m s : ByteArray) : Res Ty -> Res Ln
  | .err b j => .err b j
  | .ok t j _ => .ok ⟨k, m, s, t⟩ j 0
def lineR (S : Toks) (k : Int) (i : Nat) : Res Ln :=
  if S.small i = false then .err 2 i
  else if S.sign (i + 1) [46] = false then .err 2 (i + 1)
  else if k = 1 then (if S.small (i + 2) = false then .err 2 (i + 2) else if S.sign (i + 3) [58] = false then .err 2 (i + 3) else typL 1 (S.T i) (S.T (i + 2)) (atR S (i + 4)))
  else (if S.great (i + 2) = false then .err 2 (i + 2) else if S.sign (i + 3) [61] = false then .err 2 (i + 3) else typL 2 (S.T i) (S.T (i + 2)) (atR S (i + 4)))
def lineK (S : Toks) (i : Nat) : Int := if keyS S i kUse = true then 1 else if keyS S i kIs = true then 2 else 0
def linesR (S : Toks) : Nat -> Nat -> List Ln -> Res (List Ln)
  | 0, _, _ => .err 99 0
  | f + 1, i, l =>
    if lineK S i = 0 then .ok l i 0
    else if 60 <= l.length then .err 3 i
    else match lineR S (lineK S i) (i + 1) with
      | .err b j => .err b j
      | .ok x j _ => linesR S f j (l ++ [x])
def endU (S : Toks) (l : List Im) : Res (List Ln) -> Res Us
  | .err b j => .err b j
  | .ok ls j _ => if j < S.n then .err 2 j else .ok ⟨l, ls⟩ j 0
def restU (S : Toks) : Res (List Im) -> Res Us
  | .err b j => .err b j
  | .ok l j _ => endU S l (linesR S 61 j [])
def usesR (S : Toks) : Res Us := restU S (impsR S 21 0 [])
def parU (s : ByteArray) : Res Us := if (fin s 0 []).2 < 0 then usesR (tkS (fin s 0 []).1) else .err 2 (fin s 0 []).2.toNat
theorem parU_yes {s : ByteArray} {ts : List Tok} (h : fin s 0 [] = (ts, -1)) : parU s = usesR (tkS ts) := by unfold parU; rw [h]; rfl
theorem parU_no {s : ByteArray} {k : Nat} (h : fin s 0 [] = ([], (k : Int))) : parU s = .err 2 k := by unfold parU; rw [h]; rw [if_neg (by show ¬ (k : Int) < 0; omega)]; rfl
end Go.Proofs.YteecgiebimdbhaaGreatDoor
namespace Go.Proofs.YteecgiebimdbhaaGreatDoor
open Go.RowKit
open M
structure Cp1 (w : World) (t : Ty) (As : Option Addr) (n cs : Nat) (A5 : Option Addr) (c5 : Nat) (wr : World) : Prop where
  below : Below w.heap.size w wr
  box : wr.heap[w.heap.size]? = some (.cells #[.int .i64 t.kind, .string t.pkg, .int .i64 t.major, .string t.mod, .string t.name, .slice A5 t.names.length c5, .slice As n cs] 55 (0, 0))
  res : wr.heap[w.heap.size + 1]? = some (.cells #[.int .i64 0, .string ⟨#[]⟩, .int .i64 0, .string ⟨#[]⟩, .string ⟨#[]⟩, .slice none 0 0, .slice none 0 0] 55 (0, 0))
  own : wr.ownsRow (w.heap.size + 2) 9 1 (.slice A5 t.names.length c5) t.names.length (t.names.map Value.string)
end Go.Proofs.YteecgiebimdbhaaGreatDoor
namespace Go.Proofs.YteecgiebimdbhaaGreatDoor
open Go.RowKit
open Go.Sort
open M
theorem own_slice {w : World} {base : Nat} {e : TypeId} {z : Nat} {v : Value} {n : Nat} {xs : List Value} (h : w.ownsRow base e z v n xs) : ∃ A c, v = .slice A n c := by
  rcases h.2 with ⟨rfl, h0⟩ | ⟨g, cap, cur, rfl, -⟩
  · exact ⟨none, 0, by rw [h0]⟩
  · exact ⟨_, _, rfl⟩
end Go.Proofs.YteecgiebimdbhaaGreatDoor
namespace Go.Proofs.YteecgiebimdbhaaGreatDoor
open M
def impHas (m : Mo) (s : ByteArray) : Bool := m.imps.any fun x => decide (x.asn = s)
def isTyp (s : ByteArray) (d : De) : Bool := !(d.kind == 4) && decide (d.name = s)
def typAt (m : Mo) (s : ByteArray) : Option Nat := m.decs.findIdx? (isTyp s)
mutual
def saidT (m : Mo) : Ty -> List Nat
  | .mk k _ _ d n _ ss => if k = 8 then (if d.size = 0 then (typAt m n).toList else []) else saidL m ss
def saidL (m : Mo) : List Ty -> List Nat
  | [] => []
  | t :: r => saidT m t ++ saidL m r
end
mutual
def wholeT (m : Mo) : Ty -> Bool
  | .mk k _ _ d n _ ss => if k = 8 then (if d.size = 0 then (typAt m n).isSome else impHas m d) else wholeL m ss
def wholeL (m : Mo) : List Ty -> Bool
  | [] => true
  | t :: r => wholeT m t && wholeL m r
end
theorem saidL_append (m : Mo) : ∀ a b, saidL m (a ++ b) = saidL m a ++ saidL m b
  | [], b => rfl
  | t :: r, b => by simp [saidL, saidL_append m r b]
theorem wholeL_append (m : Mo) : ∀ a b, wholeL m (a ++ b) = (wholeL m a && wholeL m b)
  | [], b => by simp [wholeL]
  | t :: r, b => by simp [wholeL, wholeL_append m r b, Bool.and_assoc]
theorem saidL_take (m : Mo) (l : List Ty) (k : Nat) (t : Ty) (h : l[k]? = some t) : saidL m (l.take (k + 1)) = saidL m (l.take k) ++ saidT m t := by
  rw [List.take_add_one, h, saidL_append]; simp [saidL]
theorem wholeL_take (m : Mo) (l : List Ty) (k : Nat) (t : Ty) (h : l[k]? = some t) : wholeL m (l.take (k + 1)) = (wholeL m (l.take k) && wholeT m t) := by
  rw [List.take_add_one, h, wholeL_append]; simp [wholeL]
theorem saidT_sub (m : Mo) (t : Ty) (h : t.kind ≠ 8) : saidT m t = saidL m t.subs := by
  cases t; unfold saidT; exact if_neg h
theorem wholeT_sub (m : Mo) (t : Ty) (h : t.kind ≠ 8) : wholeT m t = wholeL m t.subs := by
  cases t; unfold wholeT; exact if_neg h
theorem saidT_local (m : Mo) (t : Ty) (h : t.kind = 8) : saidT m t = if t.mod.size = 0 then (typAt m t.name).toList else [] := by
  cases t; unfold saidT; exact if_pos h
theorem wholeT_local (m : Mo) (t : Ty) (h : t.kind = 8) : wholeT m t = if t.mod.size = 0 then (typAt m t.name).isSome else impHas m t.mod := by
  cases t; unfold wholeT; exact if_pos h
theorem typAt_lt {m : Mo} {s : ByteArray} {i : Nat} (h : typAt m s = some i) : i < m.decs.length := by
  unfold typAt at h
  rw [List.findIdx?_eq_some_iff_getElem] at h;exact h.1
theorem said_lt (m : Mo) : ∀ (N : Nat) (t : Ty), many t <= N -> ∀ i ∈ saidT m t, i < m.decs.length := by
  intro N;induction N with
  | zero => intro t h; have := many_pos t; omega
  | succ N ih =>
    intro t hN i hi;by_cases hk : t.kind = 8
    · rw [saidT_local m t hk] at hi
      split at hi
      · exact typAt_lt (Option.mem_toList.1 hi)
      · cases hi
    · rw [saidT_sub m t hk] at hi
      have key : ∀ (l : List Ty), (∀ s ∈ l, many s <= N) -> ∀ i ∈ saidL m l, i < m.decs.length := by
        intro l;induction l with
        | nil => intro _ i hi; cases hi
        | cons a r ih2 =>
          intro h i hi;unfold saidL at hi
          rcases List.mem_append.1 hi with hi | hi
          · exact ih a (h a (by simp)) i hi
          · exact ih2 (fun s hs => h s (by simp [hs])) i hi
      exact key t.subs (fun s hs => by
        have := manyL_mem _ _ hs
        have e : many t = 1 + manyL t.subs := by cases t; rfl
        omega) i hi
theorem said_len (m : Mo) : ∀ (N : Nat) (t : Ty), many t <= N -> (saidT m t).length <= many t := by
  intro N;induction N with
  | zero => intro t h; have := many_pos t; omega
  | succ N ih =>
    intro t hN;have e : many t = 1 + manyL t.subs := by cases t; rfl
    by_cases hk : t.kind = 8
    · rw [saidT_local m t hk]
      split
      · cases typAt m t.name <;> simp <;> omega
      · simp
    · rw [saidT_sub m t hk]
      have key : ∀ (l : List Ty), (∀ s ∈ l, many s <= N) -> (saidL m l).length <= manyL l := by
        intro l;induction l with
        | nil => intro _; simp [saidL]
        | cons a r ih2 =>
          intro h;have h1 := ih a (h a (by simp));have h2 := ih2 (fun s hs => h s (by simp [hs]));simp only [saidL, manyL, List.length_append];omega
      have := key t.subs (fun s hs => by have := manyL_mem _ _ hs; omega)
      omega
structure En where
  at_ : Nat
  kind : Int
  said : List Nat
  whole : Bool
def entriesOf (m : Mo) (l : List De) : List En := l.mapIdx fun i d => ⟨i, d.kind, saidT m d.typ, wholeT m d.typ⟩
def entries (m : Mo) : List En := entriesOf m m.decs
theorem entries_len (m : Mo) : (entries m).length = m.decs.length := by simp [entries, entriesOf]
theorem entries_at {m : Mo} {i : Nat} {d : De} (h : m.decs[i]? = some d) : (entries m)[i]? = some ⟨i, d.kind, saidT m d.typ, wholeT m d.typ⟩ := by
  unfold entries entriesOf; rw [List.getElem?_mapIdx, h]; rfl
inductive Reach (E : List En) (l : List Nat) : Nat -> Prop
  | one {i : Nat} : i ∈ l -> Reach E l i
  | step {i j : Nat} {x : En} : Reach E l j -> E[j]? = some x -> i ∈ x.said -> Reach E l i
theorem Reach.mono {E : List En} {l l' : List Nat} {i : Nat} (h : Reach E l i) (hl : ∀ j ∈ l, Reach E l' j) : Reach E l' i := by
  induction h with
  | one h => exact hl _ h
  | step _ hx hi ih => exact .step ih hx hi
open Classical in
noncomputable def reachB (E : List En) (l : List Nat) (i : Nat) : Bool := decide (Reach E l i)
theorem reachB_iff {E : List En} {l : List Nat} {i : Nat} : reachB E l i = true ↔ Reach E l i := by unfold reachB; simp
structure Found (E : List En) (F : Nat -> Bool) (l : List Nat) (F' : Nat -> Bool) : Prop where
  old : ∀ i, F i = true -> F' i = true
  new : ∀ i ∈ l, F' i = true
  clo : ∀ i x, F' i = true -> F i = false -> E[i]? = some x -> ∀ j ∈ x.said, F' j = true
  only : ∀ i, F' i = true -> F i = true \/ Reach E l i
theorem Found.nil (E : List En) (F : Nat -> Bool) : Found E F [] F := ⟨fun _ h => h, fun i h => (by cases h), fun i x h h' => (by rw [h] at h'; cases h'), fun i h => .inl h⟩
theorem Found.skip {E : List En} {F F' : Nat -> Bool} {l : List Nat} {i : Nat} (h : Found E F l F') (hi : F' i = true) : Found E F (l ++ [i]) F' :=
  ⟨h.old, fun j hj => by
    rcases List.mem_append.1 hj with hj | hj
    · exact h.new j hj
    · rw [List.mem_singleton.1 hj]; exact hi, h.clo, fun j hj => (h.only j hj).imp id (fun r => r.mono fun k hk => .one (List.mem_append_left _ hk))⟩
theorem Found.more {E : List En} {F F1 F2 : Nat -> Bool} {l : List Nat} {i : Nat} {x : En} (h : Found E F l F1) (hx : E[i]? = some x) (h2 : Found E (fun j => if j = i then true else F1 j) x.said F2) : Found E F (l ++ [i]) F2 := by
  have hi : F2 i = true := h2.old i (by simp)
  have h12 : ∀ j, F1 j = true -> F2 j = true := fun j hj => h2.old j (by
    show (if j = i then true else F1 j) = true
    split
    · rfl
    · exact hj)
  refine ⟨fun j hj => h12 j (h.old j hj), fun j hj => ?_, fun j y h1 h0 hy k hk => ?_, fun j hj => ?_⟩
  · rcases List.mem_append.1 hj with hj | hj
    · exact h12 j (h.new j hj)
    · rw [List.mem_singleton.1 hj]; exact hi
  · by_cases e : j = i
    · subst e
      rw [hx] at hy; cases hy
      exact h2.new k hk
    · cases h1' : F1 j with
      | true => exact h12 k (h.clo j y h1' h0 hy k hk)
      | false => exact h2.clo j y h1 (by show (if j = i then true else F1 j) = false; rw [if_neg e]; exact h1') hy k hk
  · have hone : Reach E (l ++ [i]) i := .one (by simp)
    rcases h2.only j hj with h' | h'
    · have h' : (if j = i then true else F1 j) = true := h'
      split at h'
      · rename_i e; subst e; exact .inr hone
      · exact (h.only j h').imp id (fun r => r.mono fun k hk => .one (List.mem_append_left _ hk))
    · exact .inr (h'.mono fun k hk => .step hone hx hk)
theorem Found.all {E : List En} {l : List Nat} {F : Nat -> Bool} (h : Found E (fun _ => false) l F) (i : Nat) : F i = reachB E l i := by
  have h1 : ∀ i, Reach E l i -> F i = true := fun i hr => by
    induction hr with
    | one hi => exact h.new _ hi
    | step _ hx hi ih => exact h.clo _ _ ih rfl hx _ hi
  rw [Bool.eq_iff_iff, reachB_iff];exact ⟨fun hi => (h.only i hi).resolve_left (by simp), h1 i⟩
end Go.Proofs.YteecgiebimdbhaaGreatDoor
namespace Go.Proofs.YteecgiebimdbhaaGreatDoor
open Go.RowKit
open Go.Sort Go.Maps
open M
theorem lawStr : Go.Maps.Keyed Tryz.prog 9 := Go.Maps.string_keyed Tryz.underlying9
theorem zeroInt (w : World) : (zeroValue 3).run Tryz.prog w = .ok (.int .i64 0) w := by kernel_rfl
def MapS (w : World) (b n : Nat) (p : ByteArray -> Bool) (f : ByteArray -> Int -> Prop) : Prop :=
  ∃ D : DataW Unit, w.ownsMap Tryz.prog 9 (plainElem Tryz.prog 3) b n D /\ Go.Maps.IsMap D /\ ∀ s : ByteArray, s.size <= maxLen -> Go.Maps.has D (.string s.data.toList) = p s /\ (p s = true -> ∀ c, D.atKey (.string s.data.toList) (.lit (.int .i64 0)) = .lit (.int .i64 c) -> f s c)
theorem MapS.below {w w' : World} {b n : Nat} {p : ByteArray -> Bool} {f : ByteArray -> Int -> Prop} (h : MapS w b n p f) (hb : Below w.heap.size w w') : MapS w' b n p f := by
  obtain ⟨D, ⟨es, clock, h1, h2, h3, h4⟩, hm, h5⟩ := h;exact ⟨D, ⟨es, clock, (hb.block b (Array.getElem?_eq_some_iff.1 h1).1).trans h1, h2, h3, h4⟩, hm, h5⟩
structure NmS (w : World) (b0 b1 : Nat) (m : Mo) : Prop where
  ims : ∃ n, MapS w b0 n (impHas m) (fun _ _ => True)
  tys : ∃ n, MapS w b1 n (fun s => (typAt m s).isSome) (fun s c => typAt m s = some c.toNat /\ 0 <= c)
theorem NmS.below {w w' : World} {b0 b1 : Nat} {m : Mo} (h : NmS w b0 b1 m) (hb : Below w.heap.size w w') : NmS w' b0 b1 m :=
  ⟨h.ims.imp fun _ h => h.below hb, h.tys.imp fun _ h => h.below hb⟩
def natCells (l : List Nat) : List Value := l.map fun (i : Nat) => Value.int .i64 (i : Int)
def OwnN (w : World) (lo : Nat) (v : Value) (l : List Nat) : Prop := w.ownsRow lo 3 1 v l.length (natCells l)
theorem own_nilN (w : World) (lo : Nat) : OwnN w lo (.slice none 0 0) [] := World.ownsRow_nil _ _ _ _
theorem local_said (m : Mo) (t : Ty) (b0 b1 : Nat) (A : Option Addr) (n c : Nat) (v : Value) (w : World) (hk : t.kind = 8) (hN : NmS w b0 b1 m) (hv : TyV w v t) :
    Calls Tryz.prog 271 #[.agg #[.map (some b0), .map (some b1), .slice A n c], v] w fun e w' => ∃ v' : Value, e = .returned (.tuple #[v', .bool (wholeT m t)]) /\ OwnN w' w.heap.size v' (saidT m t) /\ Below w.heap.size w w' := by
  obtain ⟨l, rfl, hT⟩ := hv;obtain ⟨An, cn, As, cs, rfl, zp, zm, za, zn, zs, -, -⟩ := hT.parts;rw [saidT_local m t hk, wholeT_local m t hk];have hz1 : t.mod.size <= maxLen := by unfold maxLen; omega
  have hz2 : t.name.size <= maxLen := by unfold maxLen; omega
  obtain ⟨W2, hW2⟩ : ∃ W2, W2 = (w.alloc (.cells #[.map (some b0), .map (some b1), .slice A n c] 278)).alloc (.cells #[.int .i64 t.kind, .string t.pkg, .int .i64 t.major, .string t.mod, .string t.name, .slice An t.names.length cn, .slice As t.subs.length cs] 55) := ⟨_, rfl⟩;have hB : Below w.heap.size w W2 := by rw [hW2]; exact below_new (below_new (Below.refl _ _) _) _
  have hs1 : (w.alloc (.cells #[.map (some b0), .map (some b1), .slice A n c] 278)).heap.size = w.heap.size + 1 := by simp
  have X1 : W2.heap[w.heap.size]? = some (.cells #[.map (some b0), .map (some b1), .slice A n c] 278 (0, 0)) := by
    rw [hW2, Lib.alloc_old _ _ _ (by rw [hs1]; omega)]; exact heap_alloc_new w _
  have X2 : W2.heap[w.heap.size + 1]? = some (.cells #[.int .i64 t.kind, .string t.pkg, .int .i64 t.major, .string t.mod, .string t.name, .slice An t.names.length cn, .slice As t.subs.length cs] 55 (0, 0)) := by
    rw [hW2, <- hs1]; exact heap_alloc_new _ _
  obtain ⟨⟨n0, D0, o0, -, k0⟩, ⟨n1, D1, o1, -, k1⟩⟩ := hN.below hB;obtain ⟨x0, x1⟩ := cq2 X1;have y3 := cZ X2 3;have y4 := cZ X2 4;simp at x0 x1 y3 y4;have kk0 := Go.WideMaps.keyOf_string_mk (P := Tryz.prog) Tryz.underlying9 hz1;have kk1 := Go.WideMaps.keyOf_string_mk (P := Tryz.prog) Tryz.underlying9 hz2;have HB := hZ hB;have HW2 := hZ hW2;have hlo : w.heap.size <= W2.heap.size := hB.size;clear hT hN hk hB hW2 X1 X2 hs1;by_cases hz : t.mod.size = 0
  · rw [if_pos hz, if_pos hz]
    obtain ⟨e1, e2⟩ := empty_facts _ hz;have h1 : has D1 (.string t.name.data.toList) = (typAt m t.name).isSome := (k1 t.name hz2).1;have h2 : (typAt m t.name).isSome = true -> ∀ c, D1.atKey (.string t.name.data.toList) (.lit (.int .i64 0)) = .lit (.int .i64 c) -> typAt m t.name = some c.toNat /\ 0 <= c := (k1 t.name hz2).2;clear k0 k1 o0 kk0 hz x0;cases hq : typAt m t.name with
    | none =>
      rw [hq] at h1;simp only [Option.isSome_none] at h1;have H1 := hZ h1;have FIN := hZ (own_nilN W2 w.heap.size);clear h1 h2 hq;go_enter Tryz.func271, Tryz.ntmps271
      go_upto_region 1 with fail
      rw [<- HW2.out];go_wp2_with (at_lookup; refine Go.wpList_lookup_own_ok_int _ rfl _ _ 275 rfl 9 3 .i64 lawStr Tryz.underlying275 Tryz.underlying3 (zeroInt _) b1 n1 D1 rfl o1 _ _ rfl kk1 ?_; intro c hat hwc; rw [H1.out])
      go_ret2
      exact ⟨_, rfl, FIN.out, HB.out⟩
    | some i =>
      rw [hq] at h1;simp only [Option.isSome_some] at h1;have H1 := hZ h1
      have HC : Hid (∀ c, D1.atKey (.string t.name.data.toList) (.lit (.int .i64 0)) = .lit (.int .i64 c) -> c = (i : Int)) := hZ (fun c hc => by
        obtain ⟨a, b⟩ := h2 (by rw [hq]; rfl) c hc;rw [hq] at a;have := Option.some.inj a
        omega)
      have FIN : Hid (OwnN (W2.alloc (.cells #[.int .i64 i] 3)) w.heap.size (.slice (some ⟨W2.heap.size, 0, none⟩) 1 1) [i]) := hZ (World.ownsRow_lit (base := w.heap.size) (e := 3) (size := 1) W2 #[.int .i64 i] 1 hlo (by decide) rfl);have FB : Hid (Below w.heap.size w (W2.alloc (.cells #[.int .i64 i] 3))) := hZ (below_new HB.out _);clear h1 h2 hq;go_enter Tryz.func271, Tryz.ntmps271
      go_upto_region 1 with fail
      rw [<- HW2.out];go_wp2_with (at_lookup; refine Go.wpList_lookup_own_ok_int _ rfl _ _ 275 rfl 9 3 .i64 lawStr Tryz.underlying275 Tryz.underlying3 (zeroInt _) b1 n1 D1 rfl o1 _ _ rfl kk1 ?_; intro c hat hwc; rw [H1.out]; obtain rfl := HC.out c hat)
      go_ret2
      exact ⟨_, rfl, FIN.out, FB.out⟩
  · rw [if_neg hz, if_neg hz]
    obtain ⟨e1, e2⟩ := full_facts _ hz;obtain ⟨h1, -⟩ := k0 t.mod hz1;have FIN := hZ (own_nilN W2 w.heap.size);obtain ⟨q, hq⟩ : ∃ q, impHas m t.mod = q := ⟨_, rfl⟩;rw [hq] at h1 ⊢;have H1 := hZ h1;clear k0 k1 o1 kk1 hz x1 h1 hq;go_enter Tryz.func271, Tryz.ntmps271
    go_upto_region 1 with fail
    rw [<- HW2.out];go_wp2_with (at_lookup; refine Go.wpList_lookup_own_ok_int _ rfl _ _ 275 rfl 9 3 .i64 lawStr Tryz.underlying275 Tryz.underlying3 (zeroInt _) b0 n0 D0 rfl o0 _ _ rfl kk0 ?_; intro c hat hwc; rw [H1.out])
    go_ret2
    exact ⟨_, rfl, FIN.out, HB.out⟩
theorem OwnN.mono {w : World} {lo lo' : Nat} {v : Value} {l : List Nat} (h : OwnN w lo v l) (hl : lo' <= lo) : OwnN w lo' v l := by
 refine ⟨h.1, ?_⟩
 rcases h.2 with h | ⟨g, cap, cur, hv, hB, rest⟩
 ·exact .inl h
 ·exact .inr ⟨g, cap, cur, hv, Nat.le_trans hl hB, rest⟩
theorem OwnN.keep {w w' : World} {lo : Nat} {v : Value} {l : List Nat} (h : OwnN w lo v l) (hb : ∀ b, lo <= b -> b < w.heap.size -> w'.heap[b]? = w.heap[b]?) : OwnN w' lo v l := own_from h hb
theorem natCells_len (l : List Nat) : (natCells l).length = l.length := by simp [natCells]
theorem int_info : (Tryz.prog.info? 3).map (fun i => (i.zero, i.size, i.bytes)) = some (some (.int .i64 0), 1, 8) := by kernel_rfl
theorem OwnN.read {w : World} {lo g c n : Nat} {o : Nat} {sp : Option Nat} {l : List Nat} (h : OwnN w lo (.slice (some ⟨g, o, none⟩) n c) l) : o = 0 /\ n = l.length /\ lo <= g /\ g < w.heap.size /\ ∀ j u, (natCells l)[j]? = some u -> w.cell? ⟨g, j, none⟩ = some u := by
 rcases h.2 with ⟨e, -⟩ | ⟨g', cap, cur, hv, hB, hg, hnc, hcm, hcs, htake⟩
 ·cases e
 ·cases hv
  refine ⟨rfl, rfl, hB, (Array.getElem?_eq_some_iff.1 hg).1, fun j u hj => ?_⟩;have hj' := (List.getElem?_eq_some_iff.1 hj).1
  rw [natCells_len] at hj';rw [cZ hg, <- Array.getElem?_toList];have e : (cur.toList.take (l.length * 1))[j]? = some u := by rw [htake, hj]
  rw [List.getElem?_take] at e;split at e
  ·exact e
  ·cases e
theorem said_any (m : Mo) (b0 b1 : Nat) (A : Option Addr) (n c : Nat) (N : Nat) : ∀ (t : Ty), many t <= N -> many t <= 9000 -> ∀ (v : Value) (w : World), NmS w b0 b1 m -> TyV w v t ->
  Calls Tryz.prog 247 #[.agg #[.map (some b0), .map (some b1), .slice A n c], v] w fun e w' => ∃ v' : Value, e = .returned (.tuple #[v', .bool (wholeT m t)]) /\ OwnN w' w.heap.size v' (saidT m t) /\ Below w.heap.size w w' := by
 induction N with
 | zero => intro t h; have := many_pos t; omega
 | succ N ih =>
 intro t hN hM v w hm hv
 have HV := hZ hv
 obtain ⟨l, rfl, hT⟩ := hv
 obtain ⟨An, cn, As, cs, rfl, -, -, -, -, hz, -, hS⟩ := hT.parts
 obtain ⟨W2, hW2⟩ : ∃ W2, W2 = (w.alloc (.cells #[.map (some b0), .map (some b1), .slice A n c] 278)).alloc (.cells #[.int .i64 t.kind, .string t.pkg, .int .i64 t.major, .string t.mod, .string t.name, .slice An t.names.length cn, .slice As t.subs.length cs] 55) := ⟨_, rfl⟩
 have hB : Below w.heap.size w W2 := by rw [hW2]; exact below_new (below_new (Below.refl _ _) _) _
 have hs1 : (w.alloc (.cells #[.map (some b0), .map (some b1), .slice A n c] 278)).heap.size = w.heap.size + 1 := by simp
 have X1 : W2.heap[w.heap.size]? = some (.cells #[.map (some b0), .map (some b1), .slice A n c] 278 (0, 0)) := by
  rw [hW2, Lib.alloc_old _ _ _ (by rw [hs1]; omega)]; exact heap_alloc_new w _
 have X2 : W2.heap[w.heap.size + 1]? = some (.cells #[.int .i64 t.kind, .string t.pkg, .int .i64 t.major, .string t.mod, .string t.name, .slice An t.names.length cn, .slice As t.subs.length cs] 55 (0, 0)) := by
  rw [hW2, <- hs1]; exact heap_alloc_new _ _
 have hlo : w.heap.size + 1 < W2.heap.size := (Array.getElem?_eq_some_iff.1 X2).1
 have HM := hZ (hm.below hB)
 have HV2 := hZ (HV.out.below hB)
 have HB := hZ hB
 have HW2 := hZ hW2
 have HX1 := hZ X1
 have HX2 := hZ X2
 have HS := hZ (hS.below hB)
 clear hT hS hB hW2 hs1 hm HV
 by_cases hk : t.kind = 8
 ·have LC := hZ (local_said m t b0 b1 A n c _ W2 hk HM.out HV2.out)
  have q8 : (t.kind == 8) = true := by rw [hk]; rfl
  obtain ⟨x0, x1, x2⟩ := cq3 X1;obtain ⟨y0, y1, y2, y3, y4, y5, y6⟩ := cq7 X2;simp at x0 x1 x2 y0 y1 y2 y3 y4 y5 y6;clear hk X1 X2;go_enter Tryz.func247, Tryz.ntmps247
  go_upto_region 1 with fail
  rw [<- HW2.out];go_wp2_with fail
  refine LC.out.mono ?_; rintro e w3 ⟨v', rfl, ho, hb3⟩
  have FIN := hZ (ho.mono (show w.heap.size <= W2.heap.size by omega));have FB := hZ (below_over HB.out hb3);clear ho hb3;go_wp2_with fail
  go_ret2
  exact ⟨v', rfl, FIN.out, FB.out⟩
 ·have q8 : (t.kind == 8) = false := by simpa using hk
  have RS : Hid (saidT m t = saidL m t.subs) := hZ (saidT_sub m t hk);have RW : Hid (wholeT m t = wholeL m t.subs) := hZ (wholeT_sub m t hk);have HMN : Hid (∀ s ∈ t.subs, many s <= N /\ many s <= 9000) := hZ (fun s hs => by have h1 := manyL_mem _ _ hs; have h2 := manyL_eq t; omega);have hml : t.subs.length <= 9000 := by have := manyL_len t.subs; have := manyL_eq t; omega
  have HLN : Hid (∀ k, (saidL m (t.subs.take k)).length <= 9000) := hZ (fun k => by
   have h1 := said_len m (many t) t (Nat.le_refl _);rw [RS.out] at h1;have h2 : saidL m t.subs = saidL m (t.subs.take k) ++ saidL m (t.subs.drop k) := by rw [<- saidL_append, List.take_append_drop]
   have h3 := congrArg List.length h2;rw [List.length_append] at h3;omega)
  obtain ⟨q, hq⟩ : ∃ q, q = t.subs.length := ⟨_, rfl⟩;have HQ := hZ hq;rw [RS.out, RW.out];have y0 := cZ X2 0;have y6 := cZ X2 6;simp at y0 y6;rw [<- hq] at y6 hml;obtain ⟨i0, hi, hz0, hz1, hz2⟩ := info_parts int_info;clear hk X1 X2 hN hM hz hq HX2 HV2;go_enter Tryz.func247, Tryz.ntmps247
  go_upto_region 1 with fail
  rw [<- HW2.out];go_wp2_with fail
  clear y0 y6 HW2;go_loopw [6, 7, 23] (fun s6 s7 iv wr => ∃ (k : Nat) (v6 : Value), v6 = s6 /\ k <= q /\ iv = .int .i64 k /\ Hid (OwnN wr W2.heap.size v6 (saidL m (t.subs.take k))) /\ s7 = .bool (wholeL m (t.subs.take k)) /\ Hid (Below W2.heap.size W2 wr)) (fun _ _ iv _ => q - (intOf iv).toNat)
  case atStart => exact ⟨0, _, rfl, by omega, rfl, hZ (own_nilN _ _), by simp [wholeL], hZ (Below.refl _ _)⟩
  case round =>
   obtain ⟨k, v6, rfl, hkq, rfl, HO, rfl, HBo⟩ := hrel;obtain ⟨wo, rfl⟩ : ∃ wo : World, wo = wr := ⟨_, rfl⟩;by_cases hlt : k < q
   ·obtain ⟨s, hs⟩ : ∃ s, t.subs[k]? = some s := ⟨_, List.getElem?_eq_getElem (by rw [<- HQ.out]; exact hlt)⟩
    obtain ⟨g, o, v0, v1, v2, v3, v4, v5, v6, rfl, hg, h0, h1, h2, h3, h4, h5, h6, hs7⟩ := HS.out.below HBo.out k s hs;obtain ⟨Am, cm, At, ct, rfl, rfl, rfl, rfl, rfl, rfl, rfl⟩ := hs7.seven;obtain ⟨w3, hw3⟩ : ∃ w3, w3 = wo.alloc (.cells #[.int .i64 s.kind, .string s.pkg, .int .i64 s.major, .string s.mod, .string s.name, .slice Am s.names.length cm, .slice At s.subs.length ct] 55) := ⟨_, rfl⟩;have B3 : Below wo.heap.size wo w3 := by rw [hw3]; exact below_new (Below.refl _ _) _
    have X3 : w3.heap[wo.heap.size]? = some (.cells #[.int .i64 s.kind, .string s.pkg, .int .i64 s.major, .string s.mod, .string s.name, .slice Am s.names.length cm, .slice At s.subs.length ct] 55 (0, 0)) := by rw [hw3]; exact heap_alloc_new wo _
    have IH := hZ (ih s (HMN.out s (List.mem_of_getElem? hs)).1 (HMN.out s (List.mem_of_getElem? hs)).2 (.agg #[.int .i64 s.kind, .string s.pkg, .int .i64 s.major, .string s.mod, .string s.name, .slice Am s.names.length cm, .slice At s.subs.length ct]) w3 (HM.out.below (below_over HBo.out B3)) (TyV.below ⟨_, rfl, hs7⟩ B3));have hs3 : w3.heap.size = wo.heap.size + 1 := by rw [hw3]; simp
    have hWo := HBo.out.size;have O3 := HO.out.keep (w' := w3) (fun b _ h => B3.block b h);have N3 := (below_over HBo.out B3).block w.heap.size (by omega) |>.trans HX1.out
    have HO3 := hZ O3;have HB3 := hZ (below_over HBo.out B3);have HX3 := hZ X3;have HN3 := hZ N3;have HW3 := hZ hw3;have HSS := hZ hs;clear hs7 hs B3 hw3 O3;go_upto_region 8 with fail
    rw [<- HW3.out];clear h0 h1 h2 h3 h4 h5 h6;obtain ⟨x0, x1, x2⟩ := cq3 N3;obtain ⟨y0, y1, y2, y3, y4, y5, y6⟩ := cq7 X3;simp at x0 x1 x2 y0 y1 y2 y3 y4 y5 y6;clear N3 X3;go_wp2_with fail
    refine IH.out.mono ?_; rintro e w4 ⟨v', rfl, ho4, hb4⟩
    have hs4 := hb4.size;have O4 := HO3.out.keep (w' := w4) (fun b _ h => hb4.block b h);have B4 : Below W2.heap.size W2 w4 := below_over HB3.out hb4;have hlen := HLN.out (k + 1);rw [saidL_take m _ _ _ HSS.out, List.length_append] at hlen;obtain ⟨L, hL⟩ : ∃ L, L = saidL m (t.subs.take k) := ⟨_, rfl⟩;obtain ⟨P, hP⟩ : ∃ P, P = saidT m s := ⟨_, rfl⟩;obtain ⟨b, hb⟩ : ∃ b, b = wholeT m s := ⟨_, rfl⟩;obtain ⟨a, ha⟩ : ∃ a, a = wholeL m (t.subs.take k) := ⟨_, rfl⟩;rw [<- hL] at O4 hlen;rw [<- hP] at ho4 hlen;rw [<- ha, <- hb];have RL : Hid (saidL m (t.subs.take (k + 1)) = L ++ P) := hZ (by rw [saidL_take m _ _ _ HSS.out, hL, hP]);have RB : Hid (wholeL m (t.subs.take (k + 1)) = (a && b)) := hZ (by rw [wholeL_take m _ _ _ HSS.out, ha, hb]);clear x0 x1 x2 y0 y1 y2 y3 y4 y5 y6 IH HO3 HO hL hP ha hb hb4 HN3 HX3 HW3 HB3 HSS;go_upto_region 9 with fail
    go_cut [6] (fun s6 wx => OwnN wx W2.heap.size s6 (L ++ P) /\ Below W2.heap.size W2 wx)
    case first =>
     obtain ⟨Ap, cp, rfl⟩ := own_slice ho4;cases Ap with
     | none =>
      have hP0 : P = [] := by
       rcases ho4.2 with ⟨e, h0⟩ | ⟨g, cap, cur, e, -⟩
       ·exact List.length_eq_zero_iff.1 h0
       ·cases e
      subst hP0;have FIN : OwnN w4 W2.heap.size v6 (L ++ []) := by rw [List.append_nil]; exact O4
      go_wp2_with (at_builtin; refine wpList_append_empty rfl _ _ 218 rfl W2.heap.size 3 i0 1 Tryz.underlying218 hi v6 L.length cp (natCells L) rfl O4 rfl ?_)
      go_meet
      exact ⟨FIN, B4⟩
     | some ad =>
      have ho5 := ho4;rcases ho4.2 with ⟨e, -⟩ | ⟨g, cap, cur, e, -⟩
      ·cases e
      cases e
      obtain ⟨-, -, -, -, hrd⟩ := ho5.read (sp := none)
      have hnews : ∀ j u, (natCells P)[j]? = some u -> w4.cell? ((⟨g, 0, none⟩ : Addr).add j) = some u := fun j u hj => by
       rw [WideShapes.add_plain, Nat.zero_add]; exact hrd j u hj
      have hone : ∀ u ∈ natCells P, u.oneCell' = true := fun u hu => by
       obtain ⟨x, -, rfl⟩ := List.mem_map.1 hu;rfl
      have hlow : ∀ b, v6.ownBlock = some b -> W2.heap.size <= b := fun b e => (O4.lt b e).1
      go_wp2_with (at_builtin; go_loud (refine wpList_append_own_at _ rfl _ _ 218 rfl W2.heap.size 3 i0 _ 1 8 Tryz.underlying218 hi hz0 hz1 hz2 rfl (by decide) v6 L.length (natCells L) rfl O4 ⟨g, 0, none⟩ P.length cp (natCells P) rfl ?c0 hnews hone ?c3 ?c4 ?c5 ?_))
      case c0 => rw [natCells_len]; omega
      case c3 => unfold maxLen; omega
      case c4 => omega
      case c5 => exact B4.size
      intro v5 w5 hown hgrow _ hat
      have FIN : OwnN w5 W2.heap.size v5 (L ++ P) := by
       unfold OwnN natCells
       rw [List.map_append, List.length_append];exact hown
      have FB : Below W2.heap.size W2 w5 := B4.trans ⟨hgrow.os, hgrow.tape, hgrow.output, hgrow.size, fun b hb => hgrow.block b (by have := B4.size; omega) (fun e => by have := hlow b e.symm; omega)⟩;clear hown hgrow hat;go_wp2_with fail
      go_meet
      exact ⟨FIN, FB⟩
    case rest =>
     obtain ⟨O5, B5⟩ := hcut;have HO5 := hZ O5;have HB5 := hZ B5;clear O5 B5 ho4 O4 B4;cases a with
     | false =>
      go_wp2_with fail
      go_roundw
      case rel => exact ⟨k + 1, _, rfl, by omega, by go_num, hZ (by rw [RL.out]; exact HO5.out), by rw [RB.out]; rfl, HB5⟩
      case measure => simp [intOf]; omega
     | true =>
      go_wp2_with fail
      go_roundw
      case rel => exact ⟨k + 1, _, rfl, by omega, by go_num, hZ (by rw [RL.out]; exact HO5.out), by rw [RB.out]; cases b <;> rfl, HB5⟩
      case measure => simp [intOf]; omega
   ·obtain rfl : k = q := by omega
    have hfull : t.subs.take k = t.subs := List.take_of_length_le (by rw [<- HQ.out]; exact Nat.le_refl _);have FIN := hZ (HO.out.mono (show w.heap.size <= W2.heap.size by omega));have FB := hZ (HB.out.trans (HBo.out.mono HB.out.size));rw [hfull] at FIN ⊢;clear HO HBo;go_wp2_with fail
    go_ret2
    exact ⟨_, rfl, FIN.out, FB.out⟩
end Go.Proofs.YteecgiebimdbhaaGreatDoor
