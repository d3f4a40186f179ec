/-
  Several texts in one.
-/
import Derived.Test.YteecgiebimdbhaaGreatDoorK05
import Derived.Lib.ItoaLen
import Derived.Deep.RegionHeld3
import Derived.Deep.RegionWith
import Derived.Laws.BitsLemmas
open List (getElem_toArray getElem_cons_succ getElem_cons_zero set_cons_zero set_cons_succ setIfInBounds_toArray)
set_option maxRecDepth 100000
set_option maxHeartbeats 4000000
namespace Go.Proofs.YteecgiebimdbhaaGreatDoor
open Go.RowKit
open Go.Sort
open M
theorem finN_size (s : ByteArray) : ∀ (n i : Nat) (acc : List Tok), (∀ t ∈ acc, t.text.size <= s.size) -> ∀ t ∈ (finN s n i acc).1, t.text.size <= s.size
  | 0, _, acc, h => h
  | n + 1, i, acc, h => by
    unfold finN
    split
    · exact h
    split
    · intro t ht; simp at ht
    split
    · exact finN_size s n _ acc h
    · refine finN_size s n _ _ fun t ht => ?_
      rcases List.mem_append.1 ht with ht | ht
      · exact h t ht
      · rw [List.mem_singleton.1 ht]
        simp only [ByteArray.size_extract];omega
theorem fin_size (s : ByteArray) {ts : List Tok} (h : fin s 0 [] = (ts, -1)) : ∀ t ∈ ts, t.text.size <= s.size := by
  have := finN_size s (s.size - 0) 0 [] (fun t ht => by simp at ht)
  unfold fin at h
  rw [h] at this;exact this
theorem finN_len (s : ByteArray) : ∀ (n i : Nat) (acc : List Tok), (finN s n i acc).1.length <= acc.length + n
  | 0, _, acc => by unfold finN; exact Nat.le_refl _
  | n + 1, i, acc => by
    unfold finN
    split
    · show acc.length <= _; omega
    split
    · show 0 <= _; omega
    split
    · have := finN_len s n (item s.data.toList i).2 acc; omega
    · have := finN_len s n (item s.data.toList i).2 (acc ++ [⟨(item s.data.toList i).1, i, s.extract i (item s.data.toList i).2⟩])
      simp at this; omega
theorem fin_len (s : ByteArray) {ts : List Tok} (h : fin s 0 [] = (ts, -1)) : ts.length <= s.size := by
  have := finN_len s (s.size - 0) 0 []
  unfold fin at h
  rw [h] at this;simpa using this
def tkS (ts : List Tok) : Toks := ⟨ts.length, fun i => ((ts[i]?).map (fun t => (t.kind : Int))).getD 0, fun i => ((ts[i]?).map (fun t => t.text)).getD ⟨#[]⟩⟩
theorem RowAt.toks {w : World} {A : Option Addr} {ts : List Tok} (h : RowAt w A ts) (hs : ∀ t ∈ ts, t.text.size <= 20000) : TokAt w A (tkS ts) := by
  intro i hi;have hi' : i < ts.length := hi
  have ht : ts[i]? = some ts[i] := List.getElem?_eq_getElem hi';obtain ⟨g, hA, hg, h0, h1, h2⟩ := h i _ ht;have eK : (tkS ts).K i = (ts[i].kind : Int) := by unfold tkS; simp [ht]
  have eT : (tkS ts).T i = ts[i].text := by unfold tkS; simp [ht]
  refine ⟨g, 0, _, hA, hg, by rw [Nat.zero_add, eK]; exact h0, by rw [Nat.zero_add]; exact h1, by rw [Nat.zero_add, eT]; exact h2, ?_⟩;rw [eT];have := hs _ (List.getElem_mem hi')
  omega
theorem tkS_small {ts : List Tok} (hs : ∀ t ∈ ts, t.text.size <= 20000) : ∀ i, i < (tkS ts).n -> ((tkS ts).T i).size <= 281474976710656 := fun i hi => by
  have hi' : i < ts.length := hi
  have ht : ts[i]? = some ts[i] := List.getElem?_eq_getElem hi';have eT : (tkS ts).T i = ts[i].text := by unfold tkS; simp [ht]
  rw [eT];have := hs _ (List.getElem_mem hi')
  omega
def SpC (g : Nat) (x : Int) (b : Nat) (w : World) : Prop := g < w.heap.size /\ w.cell? ⟨g, 0, none⟩ = some (.int .i64 x) /\ w.cell? ⟨g, 1, none⟩ = some (.iface 32 (.int .i64 b))
theorem SpAt.cells {g : Nat} {x : Int} {b : Nat} {w : World} (h : SpAt g x b w) : SpC g x b w := ⟨(Array.getElem?_eq_some_iff.1 h).1, by have := cZ h 0; simpa using this, by have := cZ h 1; simpa using this⟩
theorem SpC.below {g : Nat} {x : Int} {b : Nat} {w w' : World} (h : SpC g x b w) (hb : Below w.heap.size w w') : SpC g x b w' := ⟨Nat.lt_of_lt_of_le h.1 hb.size, (hb.cell (p := ⟨g, 0, none⟩) h.1).trans h.2.1, (hb.cell (p := ⟨g, 1, none⟩) h.1).trans h.2.2⟩
theorem SpC.row {g r : Nat} {x : Int} {b : Nat} {w : World} (h : SpC g x b w) (hne : g ≠ r) (vs : Array Value) : SpC g x b (w.setRow r vs) :=
  ⟨by have := h.1; simpa using this, (World.cell?_of_block (a := ⟨g, 0, none⟩) (setRow_other w r g vs hne)).trans h.2.1, (World.cell?_of_block (a := ⟨g, 1, none⟩) (setRow_other w r g vs hne)).trans h.2.2⟩
theorem toks_cases (s : ByteArray) : (∃ ts, fin s 0 [] = (ts, -1)) \/ ∃ k : Nat, fin s 0 [] = ([], (k : Int)) := by
  rcases fin_at s s.size 0 [] (by omega) with h | ⟨k, -, h⟩
  · exact .inl ⟨(fin s 0 []).1, by rw [<- h]⟩
  · exact .inr ⟨k, h⟩
structure Im where
  pkg : ByteArray
  major : Int
  mod : ByteArray
  asn : ByteArray
structure De where
  kind : Int
  name : ByteArray
  typ : Ty
structure Mo where
  name : ByteArray
  imps : List Im
  decs : List De
def kImport : List UInt8 := [105, 109, 112, 111, 114, 116]
def kAs : List UInt8 := [97, 115]
def keyS (S : Toks) (i : Nat) (l : List UInt8) : Bool := decide (i < S.n) && (S.K i == 1) && ((S.T i).data.toList == l)
theorem key_lt {S : Toks} {i : Nat} {l : List UInt8} (h : keyS S i l = true) : i < S.n := by
  unfold keyS at h; simp only [Bool.and_eq_true, decide_eq_true_eq] at h; exact h.1.1
def declK (l : List UInt8) : Int :=
  if l = [111, 112, 97, 113, 117, 101] then 1 else if l = [104, 105, 100, 100, 101, 110] then 2 else if l = [97, 108, 105, 97, 115] then 3 else if l = [118, 97, 108] then 4 else 0
def impR (S : Toks) (i : Nat) : Res Im :=
  if S.small i = false then .err 2 i
  else if S.major (i + 1) = false then .err 2 (i + 1)
  else if S.small (i + 2) = false then .err 2 (i + 2)
  else if keyS S (i + 3) kAs = false then .err 2 (i + 3)
  else if S.small (i + 4) = false then .err 2 (i + 4)
  else .ok ⟨S.T i, digs (S.T (i + 1)).data.toList 0, S.T (i + 2), S.T (i + 4)⟩ (i + 5) 0
def impsR (S : Toks) : Nat -> Nat -> List Im -> Res (List Im)
  | 0, _, _ => .err 99 0
  | f + 1, i, l =>
    if keyS S i kImport = false then .ok l i 0
    else if 20 <= l.length then .err 3 i
    else match impR S (i + 1) with
      | .err b j => .err b j
      | .ok x j _ => impsR S f j (l ++ [x])
def typD (k : Int) (s : ByteArray) : Res Ty -> Res De
  | .err b j => .err b j
  | .ok t j _ => .ok ⟨k, s, t⟩ j 0
def decR (S : Toks) (k : Int) (i : Nat) : Res De :=
  if k = 1 \/ k = 2 then (if S.great i = false then .err 2 i else .ok ⟨k, S.T i, noT⟩ (i + 1) 0)
  else if k = 3 then (if S.great i = false then .err 2 i else if S.sign (i + 1) [61] = false then .err 2 (i + 1) else typD 3 (S.T i) (atR S (i + 2)))
  else (if S.small i = false then .err 2 i else if S.sign (i + 1) [58] = false then .err 2 (i + 1) else typD 4 (S.T i) (atR S (i + 2)))
def declAt (S : Toks) (i : Nat) : Int := if i < S.n then declK (S.T i).data.toList else 0
def oneD (S : Toks) (i n : Nat) : Res De :=
  if declAt S i = 0 then .err 2 i
  else if 60 <= n then .err 3 i
  else decR S (declAt S i) (i + 1)
def decsR (S : Toks) : Nat -> Nat -> List De -> Res (List De)
  | 0, _, _ => .err 99 0
  | f + 1, i, l =>
    if S.n <= i then .ok l i 0
    else match oneD S i l.length with
      | .err b j => .err b j
      | .ok x j _ => decsR S f j (l ++ [x])
def restM (S : Toks) (s : ByteArray) : Res (List Im) -> Res Mo
  | .err b j => .err b j
  | .ok l j _ => match decsR S 61 j [] with
    | .err b i => .err b i
    | .ok ds i _ => .ok ⟨s, l, ds⟩ i 0
theorem atR_le {S : Toks} {i j c : Nat} {t : Ty} (h : atR S i = .ok t j c) : i < j := by
  have := (steps S (2 * S.n + 3)).1 1 i 0 (by omega)
  unfold atR at h
  rw [h] at this;exact this
theorem key_at {S : Toks} {b i : Nat} (l : List UInt8) : ((kAt S b i == 1) && ((tAt S b i).data.toList == l)) = (decide (b = 0) && keyS S i l) := by
  unfold kAt tAt keyS
  by_cases h : b = 0 /\ i < S.n
  · rw [if_pos h, if_pos h]; simp [h.1, h.2]
  · rw [if_neg h]
    by_cases hb : b = 0
    · have : ¬ i < S.n := fun e => h ⟨hb, e⟩
      simp [hb, this]
    · simp [hb]
theorem catKey_any {W : World} {q : Nat} {A : Option Addr} {S : Toks} {cn i b : Nat} {w : World} (hc : CdCtx W q A S w) (h : CSt q A S.n cn i b w) (s : ByteArray) :
    Calls Tryz.prog 105 #[.pointer (some ⟨q, 0, none⟩), .string s] w fun e w' => e = .returned (.bool (decide (b = 0) && keyS S i s.data.toList)) /\ Below w.heap.size w w' := by
  have ST := stands_any hc h 1 s;unfold standB at ST
  rw [key_at] at ST;have HST := hZ ST;clear h hc ST;go_enter Tryz.func105, Tryz.ntmps105
  go_wp2_with fail
  refine HST.out.mono ?_; rintro e w1 ⟨rfl, hb1⟩
  go_wp2_with fail
  go_ret;exact ⟨rfl, hb1⟩
theorem ckey_any {W : World} {q : Nat} {A : Option Addr} {S : Toks} {cn i b : Nat} {w : World} (hc : CdCtx W q A S w) (h : CSt q A S.n cn i b w) (s : ByteArray) :
    Calls Tryz.prog 152 #[.pointer (some ⟨q, 0, none⟩), .string s] w fun e w' => e = .returned (.tuple #[]) /\ CSt q A S.n cn (psI b (keyS S i s.data.toList) i) (psB b (keyS S i s.data.toList)) w' /\ Kp q w w' := by
  have hbig := hc.big;have AK := hZ (catKey_any hc h s);have HH := hZ h;clear hc h;go_enter Tryz.func152, Tryz.ntmps152
  go_wp2_with fail
  refine AK.out.mono ?_; rintro e w1 ⟨rfl, hb1⟩
  have h1 := HH.out.below hb1;have MU := hZ (must_any h1 (decide (b = 0) && keyS S i s.data.toList) 2 (by decide));have HK1 := hZ (Kp.of_below (r := q) hb1)
  have RB : Hid (mustB b (decide (b = 0) && keyS S i s.data.toList) 2 = psB b (keyS S i s.data.toList)) := hZ (by
    unfold mustB psB
    by_cases hb : b = 0
    · subst hb
      cases keyS S i s.data.toList <;> rfl
    · rw [if_neg (fun x => hb x.1), if_neg (fun x => hb x.1)])
  clear h1 hb1 AK;go_wp2_with fail
  refine MU.out.mono ?_; rintro e w2 ⟨rfl, h2, k2⟩
  rw [RB.out] at h2
  have hlt : psB b (keyS S i s.data.toList) = 0 -> i < S.n := fun e => by
    have hb := psB_0 e;subst hb;cases hk : keyS S i s.data.toList with
    | true => exact key_lt hk
    | false => rw [hk] at e; cases e
  have PS := hZ (cpass_any h2 hlt hbig)
  have RI : Hid (upI (psB b (keyS S i s.data.toList)) i = psI b (keyS S i s.data.toList) i) := hZ (by
    by_cases hb : b = 0
    · subst hb
      cases keyS S i s.data.toList <;> rfl
    · rw [psB_bad _ hb, psI_bad _ _ hb, upI_ne _ hb])
  have HK2 := hZ (HK1.out.trans k2);clear h2 k2 MU hlt;go_wp2_with fail
  refine PS.out.mono ?_; rintro e w3 ⟨rfl, h3, k3⟩
  rw [RI.out] at h3;go_wp2_with fail
  go_end0
  exact ⟨rfl, h3, HK2.out.trans k3⟩
section
variable {P : Program} {ops : Array Oper} {Q : Exit -> Act -> World -> Prop} {md : Region.Mode} {S : World -> Prop} {off : Nat -> Bool}
theorem AnyX.go2 (i j : Nat) {o p : Oper} {k : Nat} {listed : Array Bool} {a : Act} {w : World} (hr : Region.ready md ops listed = [i, j]) (ho : ops[i]? = some o) (hg : o.guard = none) (hp : ops[j]? = some p) (hgp : p.guard = none)
    (h : ∀ K : Act -> World -> Prop, Hid (∀ a' w', (off i = false -> S w -> S w') -> AnyX P md ops Q S off k (listed.setIfInBounds i true) a' w' -> K a' w') -> Oper.wp P o a w K Q)
    (h2 : ∀ K : Act -> World -> Prop, Hid (∀ a' w', (off j = false -> S w -> S w') -> AnyX P md ops Q S off k (listed.setIfInBounds j true) a' w' -> K a' w') -> Oper.wp P p a w K Q) : AnyX P md ops Q S off (k + 1) listed a w :=
  ⟨fun h0 => (by rw [hr] at h0; cases h0), fun q hq => by
    rw [hr] at hq;rcases List.mem_cons.1 hq with rfl | hq
    · refine wpOp_step ho fun K hK => ?_
      rw [if_pos (by simp [Region.wanted, hg])];exact h K (hZ fun a w hS hW => hK a w ⟨hS, hW⟩)
    · obtain rfl := List.mem_singleton.1 hq
      refine wpOp_step hp fun K hK => ?_
      rw [if_pos (by simp [Region.wanted, hgp])];exact h2 K (hZ fun a w hS hW => hK a w ⟨hS, hW⟩)⟩
end
def cutR {α : Type} : Res α -> Res α
  | .ok x i _ => .ok x i 0
  | .err b i => .err b i
theorem cell_alloc {w : World} {o : Obj} {a : Addr} {v : Value} (h : w.cell? a = some v) : (w.alloc o).cell? a = some v := (World.cell?_alloc_lt _ _ _ (World.block_lt_of_cell? w _ h)).trans h
def RdC (S : Toks) (i : Nat) (wb : World) (s6 s7 s8 : Value) (wx : World) : Prop :=
  Below wb.heap.size wb wx /\ ∃ g6 : Nat, s6 = .pointer (some ⟨g6, 0, none⟩) /\ wb.heap.size <= g6 /\
    ((∃ (l : List Value) (t : Ty) (j c : Nat), atR S i = .ok t j c /\ s7 = .int .i64 j /\ s8 = .nilIface /\ wx.heap[g6]? = some (.cells l.toArray 55 (0, 0)) /\ TyAt (strike (fun b => b < wb.heap.size \/ b = g6) wx) l t) \/
     (∃ b j g : Nat, atR S i = .err b j /\ b ≠ 0 /\ s7 = .int .i64 0 /\ s8 = .iface 89 (.pointer (some ⟨g, 0, none⟩)) /\ SpAt g j b wx))
theorem RdC.afterOk {S : Toks} {i : Nat} {wb w2 w4 : World} {l : List Value} {t : Ty} {j c g6 : Nat} (hb : Below wb.heap.size wb w2) (hg : wb.heap.size <= g6) (hok : atR S i = .ok t j c) (hT : TyAt (strike (fun b => b < wb.heap.size \/ b = g6) w2) l t)
    (hz : w2.heap.size <= w4.heap.size) (hrow : w4.heap[g6]? = some (.cells l.toArray 55 (0, 0))) (ho : ∀ b, b < w2.heap.size -> b ≠ g6 -> w4.heap[b]? = w2.heap[b]?) (h1 : w4.os = w2.os) (h2 : w4.tape = w2.tape) (h3 : w4.output = w2.output) :
    RdC S i wb (.pointer (some ⟨g6, 0, none⟩)) (.int .i64 j) .nilIface w4 :=
  ⟨⟨h1.trans hb.os, h2.trans hb.tape, h3.trans hb.output, Nat.le_trans hb.size hz, fun k hk => (ho k (Nat.lt_of_lt_of_le hk hb.size) (by omega)).trans (hb.block k hk)⟩, g6, rfl, hg, .inl ⟨l, t, j, c, hok, rfl, rfl, hrow, hT.move hz fun b hlt hS => ⟨hS, ho b hlt (fun e => hS (.inr e))⟩⟩⟩
theorem RdC.afterErr {S : Toks} {i : Nat} {wb w2 w4 : World} {b j g g6 : Nat} (hb : Below wb.heap.size wb w2) (hg : wb.heap.size <= g6) (herr : atR S i = .err b j) (hb0 : b ≠ 0) (hsp : SpAt g j b w2)
    (hz : w2.heap.size <= w4.heap.size) (hgg : g ≠ g6) (ho : ∀ b, b < w2.heap.size -> b ≠ g6 -> w4.heap[b]? = w2.heap[b]?) (h1 : w4.os = w2.os) (h2 : w4.tape = w2.tape) (h3 : w4.output = w2.output) :
    RdC S i wb (.pointer (some ⟨g6, 0, none⟩)) (.int .i64 0) (.iface 89 (.pointer (some ⟨g, 0, none⟩))) w4 :=
  ⟨⟨h1.trans hb.os, h2.trans hb.tape, h3.trans hb.output, Nat.le_trans hb.size hz, fun k hk => (ho k (Nat.lt_of_lt_of_le hk hb.size) (by omega)).trans (hb.block k hk)⟩, g6, rfl, hg, .inr ⟨b, j, g, herr, hb0, rfl, rfl, (ho g (Array.getElem?_eq_some_iff.1 hsp).1 hgg).trans hsp⟩⟩
def TrOut (w : World) (q : Nat) (A : Option Addr) (n cn : Nat) (R : Res Ty) (e : Ending) (w' : World) : Prop :=
  ∃ (l : List Value) (t : Ty) (i' b' : Nat), e = .returned (.agg l.toArray) /\ TyAt (strike (· < w.heap.size) w') l t /\ Kp q w w' /\ CSt q A n cn i' b' w' /\ badR b' i' (.ok t i' 0) = R
theorem ctype_of {W : World} {q : Nat} {A : Option Addr} {S : Toks} {cn i b : Nat} {w : World} (hc : CdCtx W q A S w) (h : CSt q A S.n cn i b w) (he : CEnv W) (hi : b = 0 -> i <= S.n) (hL : b = 0 -> LeafAt S i) :
  Calls Tryz.prog 113 #[.pointer (some ⟨q, 0, none⟩), .func (.func 114) #[] #[]] w (TrOut w q A S.n cn (badR b i (cutR (atR S i)))) := by
 have hq := h.lt
 obtain ⟨w0, hw0⟩ : ∃ w0, w0 = w.alloc (.cells #[.int .i64 0, .string ⟨#[]⟩, .int .i64 0, .string ⟨#[]⟩, .string ⟨#[]⟩, .slice none 0 0, .slice none 0 0] 55) := ⟨_, rfl⟩
 have B0 : Below w.heap.size w w0 := by rw [hw0]; exact below_new (Below.refl _ _) _
 have s0 : w0.heap.size = w.heap.size + 1 := by rw [hw0]; simp
 obtain ⟨w1, hw1⟩ : ∃ w1, w1 = w0.alloc (.cells #[.int .i64 0, .string ⟨#[]⟩, .int .i64 0, .string ⟨#[]⟩, .string ⟨#[]⟩, .slice none 0 0, .slice none 0 0] 55) := ⟨_, rfl⟩
 have B1 : Below w0.heap.size w0 w1 := by rw [hw1]; exact below_new (Below.refl _ _) _
 have s1 : w1.heap.size = w0.heap.size + 1 := by rw [hw1]; simp
 have X0 : Bx w.heap.size w1 := (B1.block _ (by omega)).trans (by rw [hw0]; exact heap_alloc_new w _)
 have X1 : Bx w0.heap.size w1 := by rw [hw1]; exact heap_alloc_new w0 _
 have B01 := below_over B0 B1
 have h1 := h.below B01
 have HB01 := hZ B01
 have HX0 := hZ X0
 have HX1 := hZ X1
 have HW0 := hZ hw0
 have HW1 := hZ hw1
 have SS := hZ (⟨s0, s1⟩ : w0.heap.size = w.heap.size + 1 /\ w1.heap.size = w0.heap.size + 1)
 have HH1 := hZ h1
 unfold Bx at X1
 obtain ⟨z0, z1, z2, z3, z4, z5, z6⟩ := cq7 X1
 simp at z0 z1 z2 z3 z4 z5 z6
 have HZ := hZ (⟨z0, z1, z2, z3, z4, z5, z6⟩ : _ /\ _ /\ _ /\ _ /\ _ /\ _ /\ _)
 by_cases hb : b = 0
 rotate_left
 ·obtain ⟨x, g, G, -⟩ := h1.bad hb
  have c2 := cZ G 2;simp at c2
  have SEAL : Hid (TrOut w q A S.n cn (badR b i (cutR (atR S i))) (.returned (.agg #[.int .i64 0, .string ⟨#[]⟩, .int .i64 0, .string ⟨#[]⟩, .string ⟨#[]⟩, .slice none 0 0, .slice none 0 0])) (w1.setRow w.heap.size #[.int .i64 0, .string ⟨#[]⟩, .int .i64 0, .string ⟨#[]⟩, .string ⟨#[]⟩, .slice none 0 0, .slice none 0 0])) := hZ
   ⟨[.int .i64 0, .string ⟨#[]⟩, .int .i64 0, .string ⟨#[]⟩, .string ⟨#[]⟩, .slice none 0 0, .slice none 0 0], noT, i, b, rfl, (TyAt.zero _), ⟨B01.os, B01.tape, B01.output, by have := B01.size; simpa using this, fun j hj _ => (setRow_other w1 w.heap.size j _ (by omega)).trans (B01.block j hj)⟩,
    h1.keep (setRow_other w1 w.heap.size q _ (by omega)) (fun g vs fr hg => setRow_other w1 w.heap.size g _ (two_types hg X0 (by decide))), by rw [badR_ne _ _ hb, badR_ne _ _ hb]⟩
  unfold Bx at X0
  clear h h1 hc he hi hw0 hw1 B0 B1 B01 X1 s0 s1 G;go_enter Tryz.func113, Tryz.ntmps113
  go_upto_region 1 with fail
  rw [<- HW0.out];go_upto_region 2 with fail
  rw [<- HW1.out];go_upto_region 3 with fail
  go_wp2_with (first | ((with_reducible refine wpList_putRow 55 (w.heap.size) #[.int .i64 0, .string ⟨#[]⟩, .int .i64 0, .string ⟨#[]⟩, .string ⟨#[]⟩, .slice none 0 0, .slice none 0 0] _ _ X0 ?_ ?_ ?_ ?_ ?_ ?_); exact tySize; rfl; exact tyOne; iterate 2 (focus (first | (go_simp; done) | rfl))))
  exact ret_agg1 (fn := Tryz.f113) (vs := [.int .i64 0, .string ⟨#[]⟩, .int .i64 0, .string ⟨#[]⟩, .string ⟨#[]⟩, .slice none 0 0, .slice none 0 0]) (b := w.heap.size) rfl rfl Tryz.underlying55 (by kernel_rfl) (cell7 (setRow_heap w1 w.heap.size _ _ _ _ HX0.out)) rfl SEAL.out
 subst hb
 have G1 := h1.good
 obtain ⟨a0, a1, a2⟩ := cq3 G1
 simp at a0 a1 a2
 have CA : Hid (∀ wz, Below w.heap.size w wz -> Calls Tryz.prog 114 #[.slice A S.n cn, .int .i64 i] wz (AtOut wz S i)) := hZ (fun wz hb => cat_of (cn := cn) (hc.toks.below (hc.below.trans (hb.mono hc.below.size))) (he.on (hc.below.trans (hb.mono hc.below.size))) hc.big hc.small i (hi rfl) (hL rfl))
 clear hL
 have G1' := hZ G1
 clear h h1 hc he hi hw0 hw1 B0 B1 B01 X0 X1 s0 s1 G1
 go_enter Tryz.func113, Tryz.ntmps113
 go_upto_region 1 with fail
 rw [<- HW0.out]
 go_upto_region 2 with fail
 rw [<- HW1.out]
 go_upto_region 4 with fail
 go_cut [6, 7, 8] (fun s6 s7 s8 wx => RdC S i w1 s6 s7 s8 wx)
 case first =>
  have hH0 : w1.drew.cell? ⟨q, 0, none⟩ = some (.slice A S.n cn) /\ w1.drew.cell? ⟨q, 1, none⟩ = some (.int .i64 i) := ⟨a0, a1⟩;have BD : Below w1.heap.size w1 w1.drew := Below.drew (Below.refl _ _);clear HX0 HX1 HW0 HW1 HH1 HZ G1' z0 z1 z2 z3 z4 z5 z6 a0 a1 a2;refine AnyX.start (fun wx => wx.cell? ⟨q, 0, none⟩ = some (.slice A S.n cn) /\ wx.cell? ⟨q, 1, none⟩ = some (.int .i64 i)) (fun k => [9, 15].contains k) (by kernel_rfl) ?_;refine AnyX.mv (i := 0) (v := ?_) rfl (fun _ _ _ h => h) (Or.inl ⟨by rfl, ?_⟩) ?_;rotate_left
  ·(intro wS _; go_simp; try with_reducible rfl)
  simp only [getElem_toArray, getElem_cons_succ, getElem_cons_zero];simp only [Act.put, setIfInBounds_toArray, set_cons_zero, set_cons_succ];refine AnyX.mv (i := 1) (v := ?_) rfl (fun _ _ _ h => h) (Or.inl ⟨by rfl, ?_⟩) ?_;rotate_left
  ·(intro wS _; go_simp; try with_reducible rfl)
  simp only [getElem_toArray, getElem_cons_succ, getElem_cons_zero];simp only [Act.put, setIfInBounds_toArray, set_cons_zero, set_cons_succ];refine AnyX.mv (i := 2) (v := ?_) rfl (fun _ _ _ h => h) (Or.inl ⟨by rfl, ?_⟩) ?_;rotate_left
  ·(intro wS _; go_simp; try with_reducible rfl)
  simp only [getElem_toArray, getElem_cons_succ, getElem_cons_zero];simp only [Act.put, setIfInBounds_toArray, set_cons_zero, set_cons_succ];refine AnyX.mv (i := 3) (v := ?_) rfl (fun _ _ _ h => h) (Or.inl ⟨by rfl, ?_⟩) ?_;rotate_left
  ·(intro wS _; go_simp; try with_reducible rfl)
  simp only [getElem_toArray, getElem_cons_succ, getElem_cons_zero];simp only [Act.put, setIfInBounds_toArray, set_cons_zero, set_cons_succ];refine AnyX.tk (i := 4) (v := ?_) rfl (fun _ _ _ h => h) hH0 (Or.inl ⟨by rfl, ?_⟩) ?_;rotate_left
  ·(intro wS hS; (try obtain ⟨hS0, hS1⟩ := hS); go_simp; try with_reducible rfl)
  simp only [getElem_toArray, getElem_cons_succ, getElem_cons_zero];simp only [Act.put, setIfInBounds_toArray, set_cons_zero, set_cons_succ];refine AnyX.mv (i := 5) (v := ?_) rfl (fun _ _ _ h => h) (Or.inl ⟨by rfl, ?_⟩) ?_;rotate_left
  ·(intro wS _; go_simp; try with_reducible rfl)
  simp only [getElem_toArray, getElem_cons_succ, getElem_cons_zero];simp only [Act.put, setIfInBounds_toArray, set_cons_zero, set_cons_succ];refine AnyX.mv (i := 6) (v := ?_) rfl (fun _ _ _ h => h) (Or.inl ⟨by rfl, ?_⟩) ?_;rotate_left
  ·(intro wS _; go_simp; try with_reducible rfl)
  simp only [getElem_toArray, getElem_cons_succ, getElem_cons_zero];simp only [Act.put, setIfInBounds_toArray, set_cons_zero, set_cons_succ];refine AnyX.mv (i := 7) (v := ?_) rfl (fun _ _ _ h => h) (Or.inl ⟨by rfl, ?_⟩) ?_;rotate_left
  ·(intro wS _; go_simp; try with_reducible rfl)
  simp only [getElem_toArray, getElem_cons_succ, getElem_cons_zero];simp only [Act.put, setIfInBounds_toArray, set_cons_zero, set_cons_succ];refine AnyX.tk (i := 8) (v := ?_) rfl (fun _ _ _ h => h) hH0 (Or.inl ⟨by rfl, ?_⟩) ?_;rotate_left
  ·(intro wS hS; (try obtain ⟨hS0, hS1⟩ := hS); go_simp; try with_reducible rfl)
  simp only [getElem_toArray, getElem_cons_succ, getElem_cons_zero];simp only [Act.put, setIfInBounds_toArray, set_cons_zero, set_cons_succ];refine AnyX.go2 9 14 (by kernel_rfl) rfl rfl rfl rfl (fun K hK => ?_) (fun K hK => ?_)
  ·simp only [getElem_toArray, getElem_cons_succ, getElem_cons_zero]
   go_simp
   refine (CA.out _ (below_over HB01.out BD)).mono ?_;rintro e w2 ⟨hb2, ⟨l, t, j, c, hok, rfl, hT⟩ | ⟨b, j, g, herr, hb0, rfl, hsp⟩⟩
   ·obtain ⟨An, cA, As, cS, rfl, -⟩ := hT.parts
    have hs2 := hb2.size;have hsd : w1.drew.heap.size = w1.heap.size := rfl;simp only [];refine hK.out _ _ (fun hoff _ => absurd hoff (by decide)) ?_;clear hK;(try simp only [Act.put, setIfInBounds_toArray, set_cons_zero, set_cons_succ]);refine AnyX.mv (i := 10) (v := ?_) rfl (fun _ _ _ h => h) (Or.inl ⟨by rfl, ?_⟩) ?_;rotate_left
    ·(intro wS _; go_simp; try with_reducible rfl)
    simp only [getElem_toArray, getElem_cons_succ, getElem_cons_zero];simp only [Act.put, setIfInBounds_toArray, set_cons_zero, set_cons_succ];refine AnyX.mv (i := 11) (v := ?_) rfl (fun _ _ _ h => h) (Or.inl ⟨by rfl, ?_⟩) ?_;rotate_left
    ·(intro wS _; go_simp; try with_reducible rfl)
    simp only [getElem_toArray, getElem_cons_succ, getElem_cons_zero];simp only [Act.put, setIfInBounds_toArray, set_cons_zero, set_cons_succ];refine AnyX.mv (i := 12) (v := ?_) rfl (fun _ _ _ h => h) (Or.inl ⟨by rfl, ?_⟩) ?_;rotate_left
    ·(intro wS _; go_simp; try with_reducible rfl)
    simp only [getElem_toArray, getElem_cons_succ, getElem_cons_zero];simp only [Act.put, setIfInBounds_toArray, set_cons_zero, set_cons_succ];refine AnyX.mv (i := 13) (v := ?_) rfl (fun _ _ _ h => h) (Or.inl ⟨by rfl, ?_⟩) ?_;rotate_left
    ·(intro wS _; go_simp; try with_reducible rfl)
    simp only [getElem_toArray, getElem_cons_succ, getElem_cons_zero];simp only [Act.put, setIfInBounds_toArray, set_cons_zero, set_cons_succ];refine AnyX.go 14 (by kernel_rfl) rfl rfl (fun K hK => ?_);simp only [getElem_toArray, getElem_cons_succ, getElem_cons_zero];go_simp
    refine hK.out _ _ (fun _ hS => ⟨cell_alloc hS.1, cell_alloc hS.2⟩) ?_;clear hK;(try simp only [Act.put, setIfInBounds_toArray, set_cons_zero, set_cons_succ]);refine AnyX.go 15 (by kernel_rfl) rfl rfl (fun K hK => ?_);simp only [getElem_toArray, getElem_cons_succ, getElem_cons_zero];refine wp_store_row 55 (.tmp 6) (.tmp 26) rfl w2.heap.size #[.int .i64 t.kind, .string t.pkg, .int .i64 t.major, .string t.mod, .string t.name, .slice An t.names.length cA, .slice As t.subs.length cS] rfl rfl _ _ (heap_alloc_new w2 _) tySize rfl tyOne ?_;refine hK.out _ _ (fun hoff _ => absurd hoff (by decide)) ?_;clear hK;(try simp only [Act.put, setIfInBounds_toArray, set_cons_zero, set_cons_succ]);refine AnyX.mv (i := 16) (v := ?_) rfl (fun _ _ _ h => h) (Or.inl ⟨by rfl, ?_⟩) ?_;rotate_left
    ·(intro wS _; go_simp; try with_reducible rfl)
    simp only [getElem_toArray, getElem_cons_succ, getElem_cons_zero];simp only [Act.put, setIfInBounds_toArray, set_cons_zero, set_cons_succ];refine AnyX.mv (i := 17) (v := ?_) rfl (fun _ _ _ h => h) (Or.inl ⟨by rfl, ?_⟩) ?_;rotate_left
    ·(intro wS _; go_simp; try with_reducible rfl)
    simp only [getElem_toArray, getElem_cons_succ, getElem_cons_zero];simp only [Act.put, setIfInBounds_toArray, set_cons_zero, set_cons_succ];refine AnyX.done (by kernel_rfl) ?_ _;go_wp2_with fail
    go_meet
    exact RdC.afterOk (below_over BD hb2) (by omega) hok (hT.move (Nat.le_refl _) fun b hlt hS => ⟨by rintro (e | e); exact hS e; omega, rfl⟩) (by simp) (setRow_heap _ _ _ _ _ _ (heap_alloc_new w2 _)) (fun b hb _ => (setRow_other _ _ _ _ (by omega)).trans (Lib.alloc_old w2 _ b hb)) rfl rfl rfl
   ·have hs2 := hb2.size
    have hsd : w1.drew.heap.size = w1.heap.size := rfl;have hgl : g < w2.heap.size := (Array.getElem?_eq_some_iff.1 hsp).1;simp only [];refine hK.out _ _ (fun hoff _ => absurd hoff (by decide)) ?_;clear hK;(try simp only [Act.put, setIfInBounds_toArray, set_cons_zero, set_cons_succ]);refine AnyX.mv (i := 10) (v := ?_) rfl (fun _ _ _ h => h) (Or.inl ⟨by rfl, ?_⟩) ?_;rotate_left
    ·(intro wS _; go_simp; try with_reducible rfl)
    simp only [getElem_toArray, getElem_cons_succ, getElem_cons_zero];simp only [Act.put, setIfInBounds_toArray, set_cons_zero, set_cons_succ];refine AnyX.mv (i := 11) (v := ?_) rfl (fun _ _ _ h => h) (Or.inl ⟨by rfl, ?_⟩) ?_;rotate_left
    ·(intro wS _; go_simp; try with_reducible rfl)
    simp only [getElem_toArray, getElem_cons_succ, getElem_cons_zero];simp only [Act.put, setIfInBounds_toArray, set_cons_zero, set_cons_succ];refine AnyX.mv (i := 12) (v := ?_) rfl (fun _ _ _ h => h) (Or.inl ⟨by rfl, ?_⟩) ?_;rotate_left
    ·(intro wS _; go_simp; try with_reducible rfl)
    simp only [getElem_toArray, getElem_cons_succ, getElem_cons_zero];simp only [Act.put, setIfInBounds_toArray, set_cons_zero, set_cons_succ];refine AnyX.mv (i := 13) (v := ?_) rfl (fun _ _ _ h => h) (Or.inl ⟨by rfl, ?_⟩) ?_;rotate_left
    ·(intro wS _; go_simp; try with_reducible rfl)
    simp only [getElem_toArray, getElem_cons_succ, getElem_cons_zero];simp only [Act.put, setIfInBounds_toArray, set_cons_zero, set_cons_succ];refine AnyX.go 14 (by kernel_rfl) rfl rfl (fun K hK => ?_);simp only [getElem_toArray, getElem_cons_succ, getElem_cons_zero];go_simp
    refine hK.out _ _ (fun _ hS => ⟨cell_alloc hS.1, cell_alloc hS.2⟩) ?_;clear hK;(try simp only [Act.put, setIfInBounds_toArray, set_cons_zero, set_cons_succ]);refine AnyX.go 15 (by kernel_rfl) rfl rfl (fun K hK => ?_);simp only [getElem_toArray, getElem_cons_succ, getElem_cons_zero];refine wp_store_row 55 (.tmp 6) (.tmp 26) rfl w2.heap.size #[.int .i64 0, .string ⟨#[]⟩, .int .i64 0, .string ⟨#[]⟩, .string ⟨#[]⟩, .slice none 0 0, .slice none 0 0] rfl rfl _ _ (heap_alloc_new w2 _) tySize rfl tyOne ?_;refine hK.out _ _ (fun hoff _ => absurd hoff (by decide)) ?_;clear hK;(try simp only [Act.put, setIfInBounds_toArray, set_cons_zero, set_cons_succ]);refine AnyX.mv (i := 16) (v := ?_) rfl (fun _ _ _ h => h) (Or.inl ⟨by rfl, ?_⟩) ?_;rotate_left
    ·(intro wS _; go_simp; try with_reducible rfl)
    simp only [getElem_toArray, getElem_cons_succ, getElem_cons_zero];simp only [Act.put, setIfInBounds_toArray, set_cons_zero, set_cons_succ];refine AnyX.mv (i := 17) (v := ?_) rfl (fun _ _ _ h => h) (Or.inl ⟨by rfl, ?_⟩) ?_;rotate_left
    ·(intro wS _; go_simp; try with_reducible rfl)
    simp only [getElem_toArray, getElem_cons_succ, getElem_cons_zero];simp only [Act.put, setIfInBounds_toArray, set_cons_zero, set_cons_succ];refine AnyX.done (by kernel_rfl) ?_ _;go_wp2_with fail
    go_meet
    exact RdC.afterErr (below_over BD hb2) (by omega) herr hb0 hsp (by simp) (by omega) (fun b hb _ => (setRow_other _ _ _ _ (by omega)).trans (Lib.alloc_old w2 _ b hb)) rfl rfl rfl
  ·simp only [getElem_toArray, getElem_cons_succ, getElem_cons_zero]
   go_simp
   refine hK.out _ _ (fun _ hS => ⟨cell_alloc hS.1, cell_alloc hS.2⟩) ?_;clear hK;(try simp only [Act.put, setIfInBounds_toArray, set_cons_zero, set_cons_succ]);obtain ⟨wa, hwa⟩ : ∃ wa, wa = (w1.alloc (.cells #[.int .i64 0, .string ⟨#[]⟩, .int .i64 0, .string ⟨#[]⟩, .string ⟨#[]⟩, .slice none 0 0, .slice none 0 0] 55)).drew := ⟨_, rfl⟩;have Ba : Below w1.heap.size w1 wa := by rw [hwa]; exact Below.drew (below_new (Below.refl _ _) _)
   have Xa : wa.heap[w1.heap.size]? = some (.cells #[.int .i64 0, .string ⟨#[]⟩, .int .i64 0, .string ⟨#[]⟩, .string ⟨#[]⟩, .slice none 0 0, .slice none 0 0] 55 (0, 0)) := by rw [hwa]; exact heap_alloc_new w1 _
   have sa : wa.heap.size = w1.heap.size + 1 := by rw [hwa]; simp
   rw [<- hwa];clear hwa;refine AnyX.go 9 (by kernel_rfl) rfl rfl (fun K hK => ?_);simp only [getElem_toArray, getElem_cons_succ, getElem_cons_zero];go_simp
   refine (CA.out _ (below_over HB01.out Ba)).mono ?_;rintro e w2 ⟨hb2, ⟨l, t, j, c, hok, rfl, hT⟩ | ⟨b, j, g, herr, hb0, rfl, hsp⟩⟩
   ·obtain ⟨An, cA, As, cS, rfl, -⟩ := hT.parts
    have hs2 := hb2.size;have X2 := (hb2.block _ (by omega)).trans Xa;simp only [];refine hK.out _ _ (fun hoff _ => absurd hoff (by decide)) ?_;clear hK;(try simp only [Act.put, setIfInBounds_toArray, set_cons_zero, set_cons_succ]);refine AnyX.mv (i := 10) (v := ?_) rfl (fun _ _ _ h => h) (Or.inl ⟨by rfl, ?_⟩) ?_;rotate_left
    ·(intro wS _; go_simp; try with_reducible rfl)
    simp only [getElem_toArray, getElem_cons_succ, getElem_cons_zero];simp only [Act.put, setIfInBounds_toArray, set_cons_zero, set_cons_succ];refine AnyX.mv (i := 11) (v := ?_) rfl (fun _ _ _ h => h) (Or.inl ⟨by rfl, ?_⟩) ?_;rotate_left
    ·(intro wS _; go_simp; try with_reducible rfl)
    simp only [getElem_toArray, getElem_cons_succ, getElem_cons_zero];simp only [Act.put, setIfInBounds_toArray, set_cons_zero, set_cons_succ];refine AnyX.mv (i := 12) (v := ?_) rfl (fun _ _ _ h => h) (Or.inl ⟨by rfl, ?_⟩) ?_;rotate_left
    ·(intro wS _; go_simp; try with_reducible rfl)
    simp only [getElem_toArray, getElem_cons_succ, getElem_cons_zero];simp only [Act.put, setIfInBounds_toArray, set_cons_zero, set_cons_succ];refine AnyX.mv (i := 13) (v := ?_) rfl (fun _ _ _ h => h) (Or.inl ⟨by rfl, ?_⟩) ?_;rotate_left
    ·(intro wS _; go_simp; try with_reducible rfl)
    simp only [getElem_toArray, getElem_cons_succ, getElem_cons_zero];simp only [Act.put, setIfInBounds_toArray, set_cons_zero, set_cons_succ];refine AnyX.go 15 (by kernel_rfl) rfl rfl (fun K hK => ?_);simp only [getElem_toArray, getElem_cons_succ, getElem_cons_zero];refine wp_store_row 55 (.tmp 6) (.tmp 26) rfl w1.heap.size #[.int .i64 t.kind, .string t.pkg, .int .i64 t.major, .string t.mod, .string t.name, .slice An t.names.length cA, .slice As t.subs.length cS] rfl rfl _ _ X2 tySize rfl tyOne ?_;refine hK.out _ _ (fun hoff _ => absurd hoff (by decide)) ?_;clear hK;(try simp only [Act.put, setIfInBounds_toArray, set_cons_zero, set_cons_succ]);refine AnyX.mv (i := 16) (v := ?_) rfl (fun _ _ _ h => h) (Or.inl ⟨by rfl, ?_⟩) ?_;rotate_left
    ·(intro wS _; go_simp; try with_reducible rfl)
    simp only [getElem_toArray, getElem_cons_succ, getElem_cons_zero];simp only [Act.put, setIfInBounds_toArray, set_cons_zero, set_cons_succ];refine AnyX.mv (i := 17) (v := ?_) rfl (fun _ _ _ h => h) (Or.inl ⟨by rfl, ?_⟩) ?_;rotate_left
    ·(intro wS _; go_simp; try with_reducible rfl)
    simp only [getElem_toArray, getElem_cons_succ, getElem_cons_zero];simp only [Act.put, setIfInBounds_toArray, set_cons_zero, set_cons_succ];refine AnyX.done (by kernel_rfl) ?_ _;go_wp2_with fail
    go_meet
    exact RdC.afterOk (below_over Ba hb2) (Nat.le_refl _) hok (hT.move (Nat.le_refl _) fun b hlt hS => ⟨by rintro (e | e) <;> omega, rfl⟩) (by simp) (setRow_heap _ _ _ _ _ _ X2) (fun b hb hne => setRow_other _ _ _ _ hne) rfl rfl rfl
   ·have hs2 := hb2.size
    have X2 := (hb2.block _ (by omega)).trans Xa;have hgg : g ≠ w1.heap.size := two_types hsp X2 (by decide);simp only [];refine hK.out _ _ (fun hoff _ => absurd hoff (by decide)) ?_;clear hK;(try simp only [Act.put, setIfInBounds_toArray, set_cons_zero, set_cons_succ]);refine AnyX.mv (i := 10) (v := ?_) rfl (fun _ _ _ h => h) (Or.inl ⟨by rfl, ?_⟩) ?_;rotate_left
    ·(intro wS _; go_simp; try with_reducible rfl)
    simp only [getElem_toArray, getElem_cons_succ, getElem_cons_zero];simp only [Act.put, setIfInBounds_toArray, set_cons_zero, set_cons_succ];refine AnyX.mv (i := 11) (v := ?_) rfl (fun _ _ _ h => h) (Or.inl ⟨by rfl, ?_⟩) ?_;rotate_left
    ·(intro wS _; go_simp; try with_reducible rfl)
    simp only [getElem_toArray, getElem_cons_succ, getElem_cons_zero];simp only [Act.put, setIfInBounds_toArray, set_cons_zero, set_cons_succ];refine AnyX.mv (i := 12) (v := ?_) rfl (fun _ _ _ h => h) (Or.inl ⟨by rfl, ?_⟩) ?_;rotate_left
    ·(intro wS _; go_simp; try with_reducible rfl)
    simp only [getElem_toArray, getElem_cons_succ, getElem_cons_zero];simp only [Act.put, setIfInBounds_toArray, set_cons_zero, set_cons_succ];refine AnyX.mv (i := 13) (v := ?_) rfl (fun _ _ _ h => h) (Or.inl ⟨by rfl, ?_⟩) ?_;rotate_left
    ·(intro wS _; go_simp; try with_reducible rfl)
    simp only [getElem_toArray, getElem_cons_succ, getElem_cons_zero];simp only [Act.put, setIfInBounds_toArray, set_cons_zero, set_cons_succ];refine AnyX.go 15 (by kernel_rfl) rfl rfl (fun K hK => ?_);simp only [getElem_toArray, getElem_cons_succ, getElem_cons_zero];refine wp_store_row 55 (.tmp 6) (.tmp 26) rfl w1.heap.size #[.int .i64 0, .string ⟨#[]⟩, .int .i64 0, .string ⟨#[]⟩, .string ⟨#[]⟩, .slice none 0 0, .slice none 0 0] rfl rfl _ _ X2 tySize rfl tyOne ?_;refine hK.out _ _ (fun hoff _ => absurd hoff (by decide)) ?_;clear hK;(try simp only [Act.put, setIfInBounds_toArray, set_cons_zero, set_cons_succ]);refine AnyX.mv (i := 16) (v := ?_) rfl (fun _ _ _ h => h) (Or.inl ⟨by rfl, ?_⟩) ?_;rotate_left
    ·(intro wS _; go_simp; try with_reducible rfl)
    simp only [getElem_toArray, getElem_cons_succ, getElem_cons_zero];simp only [Act.put, setIfInBounds_toArray, set_cons_zero, set_cons_succ];refine AnyX.mv (i := 17) (v := ?_) rfl (fun _ _ _ h => h) (Or.inl ⟨by rfl, ?_⟩) ?_;rotate_left
    ·(intro wS _; go_simp; try with_reducible rfl)
    simp only [getElem_toArray, getElem_cons_succ, getElem_cons_zero];simp only [Act.put, setIfInBounds_toArray, set_cons_zero, set_cons_succ];refine AnyX.done (by kernel_rfl) ?_ _;go_wp2_with fail
    go_meet
    exact RdC.afterErr (below_over Ba hb2) (Nat.le_refl _) herr hb0 hsp (by simp) hgg (fun b hb hne => setRow_other _ _ _ _ hne) rfl rfl rfl
 case rest =>
  obtain ⟨hbc, g6, rfl, hg6, ⟨l, t, j, c, hok, rfl, rfl, hrow, hT⟩ | ⟨b, j, g, herr, hb0, rfl, rfl, hsp⟩⟩ := hcut
  ·obtain ⟨An, cA, As, cS, rfl, -⟩ := hT.parts
   have ss := SS.out;have hsz := hbc.size;have Gc := (hbc.block q (by omega)).trans G1'.out;have f1 := Lib.frozen_of_heap Gc 1;have m1 := cZ Gc 1;simp at m1;have Xc := (hbc.block w.heap.size (by omega)).trans HX0.out;obtain ⟨w5, hw5⟩ : ∃ w5, w5 = wc.setCell ⟨q, 1, none⟩ (.int .i64 j) := ⟨_, rfl⟩;have s5 : w5.heap.size = wc.heap.size := by rw [hw5]; simp
   have o5 : ∀ k, k ≠ q -> w5.heap[k]? = wc.heap[k]? := fun k hk => by rw [hw5]; exact Below.heap_setCell _ _ _ _ (by show k ≠ q; exact hk)
   have G5 : CGd q A S.n cn j w5 := by
    have h2 := Joins.block_setCell (i := 1) Gc (.int .i64 j);rw [hw5]; simpa [CGd] using h2
   have X5 : Bx w.heap.size w5 := (o5 _ (by omega)).trans Xc;have R5 := (o5 g6 (by omega)).trans hrow;have K5 : Kp q w w5 := by rw [hw5]; exact (Kp.of_below (below_over HB01.out hbc)).put 1 _
   have SEAL : Hid (TrOut w q A S.n cn (badR 0 i (cutR (atR S i))) (.returned (.agg #[.int .i64 t.kind, .string t.pkg, .int .i64 t.major, .string t.mod, .string t.name, .slice An t.names.length cA, .slice As t.subs.length cS])) (w5.setRow w.heap.size #[.int .i64 t.kind, .string t.pkg, .int .i64 t.major, .string t.mod, .string t.name, .slice An t.names.length cA, .slice As t.subs.length cS])) := hZ
    ⟨[.int .i64 t.kind, .string t.pkg, .int .i64 t.major, .string t.mod, .string t.name, .slice An t.names.length cA, .slice As t.subs.length cS], t, j, 0, rfl, hT.move (by simp [s5]) fun b hlt hS => ⟨fun e => hS (.inl (by omega)), (setRow_other w5 w.heap.size b _ (fun e => hS (.inl (by omega)))).trans (o5 b (fun e => hS (.inl (by omega))))⟩,
     ⟨K5.os, K5.tape, K5.output, by have := K5.size; simpa using this, fun k hk hne => (setRow_other w5 w.heap.size k _ (by omega)).trans (K5.block k hk hne)⟩,
     .inl ⟨rfl, (setRow_other w5 w.heap.size q _ (by omega)).trans G5⟩, by rw [hok]; rfl⟩
   obtain ⟨x0, x1, x2, x3, x4, x5, x6⟩ := cq7 R5;simp at x0 x1 x2 x3 x4 x5 x6;have HX5 := hZ X5;have HW5 := hZ hw5;unfold Bx at X5
   clear hbc hrow hT Xc hw5 o5 G5 R5 K5 CA HH1 HX0 HX1 z0 z1 z2 z3 z4 z5 z6 a0 a1 a2 Gc;go_upto_region 9 with fail
   rw [<- HW5.out];go_wp2_with (first | ((with_reducible refine wpList_putRow 55 (w.heap.size) #[.int .i64 t.kind, .string t.pkg, .int .i64 t.major, .string t.mod, .string t.name, .slice An t.names.length cA, .slice As t.subs.length cS] _ _ X5 ?_ ?_ ?_ ?_ ?_ ?_); exact tySize; rfl; exact tyOne; iterate 2 (focus (first | (go_simp; done) | rfl))))
   exact ret_agg1 (fn := Tryz.f113) (vs := [.int .i64 t.kind, .string t.pkg, .int .i64 t.major, .string t.mod, .string t.name, .slice An t.names.length cA, .slice As t.subs.length cS]) (b := w.heap.size) rfl rfl Tryz.underlying55 (by kernel_rfl) (cell7 (setRow_heap w5 w.heap.size _ _ _ _ HX5.out)) rfl SEAL.out
  ·have ss := SS.out
   have hsz := hbc.size;have Gc := (hbc.block q (by omega)).trans G1'.out;have f2 := Lib.frozen_of_heap Gc 2;have m2 := cZ Gc 2;simp at m2;have Xc := (hbc.block w.heap.size (by omega)).trans HX0.out;have Yc := (hbc.block w0.heap.size (by omega)).trans HX1.out;have hgq : g ≠ q := two_types hsp Gc (by decide);have hgx : g ≠ w.heap.size := two_types hsp Xc (by decide);obtain ⟨w5, hw5⟩ : ∃ w5, w5 = wc.setCell ⟨q, 2, none⟩ (.iface 89 (.pointer (some ⟨g, 0, none⟩))) := ⟨_, rfl⟩;have s5 : w5.heap.size = wc.heap.size := by rw [hw5]; simp
   have o5 : ∀ k, k ≠ q -> w5.heap[k]? = wc.heap[k]? := fun k hk => by rw [hw5]; exact Below.heap_setCell _ _ _ _ (by show k ≠ q; exact hk)
   have G5 : CBd q A S.n cn b j w5 := by
    have h2 := Joins.block_setCell (i := 2) Gc (.iface 89 (.pointer (some ⟨g, 0, none⟩)));exact ⟨i, g, by rw [hw5]; simpa using h2, (o5 g hgq).trans hsp⟩
   have X5 : Bx w.heap.size w5 := (o5 _ (by omega)).trans Xc;have Y5 : Bx w0.heap.size w5 := (o5 _ (by omega)).trans Yc;have K5 : Kp q w w5 := by rw [hw5]; exact (Kp.of_below (below_over HB01.out hbc)).put 2 _
   have SEAL : Hid (TrOut w q A S.n cn (badR 0 i (cutR (atR S i))) (.returned (.agg #[.int .i64 0, .string ⟨#[]⟩, .int .i64 0, .string ⟨#[]⟩, .string ⟨#[]⟩, .slice none 0 0, .slice none 0 0])) (w5.setRow w.heap.size #[.int .i64 0, .string ⟨#[]⟩, .int .i64 0, .string ⟨#[]⟩, .string ⟨#[]⟩, .slice none 0 0, .slice none 0 0])) := hZ
    ⟨[.int .i64 0, .string ⟨#[]⟩, .int .i64 0, .string ⟨#[]⟩, .string ⟨#[]⟩, .slice none 0 0, .slice none 0 0], noT, j, b, rfl, TyAt.zero _,
     ⟨K5.os, K5.tape, K5.output, by have := K5.size; simpa using this, fun k hk hne => (setRow_other w5 w.heap.size k _ (by omega)).trans (K5.block k hk hne)⟩,
     .inr ⟨hb0, by
      obtain ⟨x', g', e1, e2⟩ := G5;exact ⟨x', g', (setRow_other w5 w.heap.size q _ (by omega)).trans e1, (setRow_other w5 w.heap.size g' _ (two_types e2 X5 (by decide))).trans e2⟩⟩, by rw [badR_ne _ _ hb0, herr]; rfl⟩
   rw [ss.1] at Y5;unfold Bx at Y5
   obtain ⟨x0, x1, x2, x3, x4, x5, x6⟩ := cq7 Y5;simp at x0 x1 x2 x3 x4 x5 x6;have HX5 := hZ X5;have HW5 := hZ hw5;unfold Bx at X5
   clear hbc hsp Xc Yc hw5 o5 G5 K5 CA HH1 HX0 HX1 z0 z1 z2 z3 z4 z5 z6 a0 a1 a2 Gc hgq hgx herr hb0;go_upto_region 7 with fail
   rw [<- HW5.out];go_wp2_with (first | ((with_reducible refine wpList_putRow 55 (w.heap.size) #[.int .i64 0, .string ⟨#[]⟩, .int .i64 0, .string ⟨#[]⟩, .string ⟨#[]⟩, .slice none 0 0, .slice none 0 0] _ _ X5 ?_ ?_ ?_ ?_ ?_ ?_); exact tySize; rfl; exact tyOne; iterate 2 (focus (first | (go_simp; done) | rfl))))
   exact ret_agg1 (fn := Tryz.f113) (vs := [.int .i64 0, .string ⟨#[]⟩, .int .i64 0, .string ⟨#[]⟩, .string ⟨#[]⟩, .slice none 0 0, .slice none 0 0]) (b := w.heap.size) rfl rfl Tryz.underlying55 (by kernel_rfl) (cell7 (setRow_heap w5 w.heap.size _ _ _ _ HX5.out)) rfl SEAL.out
def dec (n : Int) : ByteArray := ⟨(Lib.decDigits n.toNat).toArray⟩
end Go.Proofs.YteecgiebimdbhaaGreatDoor
namespace Go.Proofs.YteecgiebimdbhaaGreatDoor.M
def rowOf (L : List (List UInt8)) (ns : List ByteArray) : Nat -> List UInt8
  | 0 => []
  | k + 1 => (if 0 < k then rowOf L ns k ++ [44, 32] else rowOf L ns k) ++ (if 0 < ns.length then (nameAt ns k).data.toList ++ [58, 32] else []) ++ L.getD k []
def kindText (k : Int) (p : ByteArray) (m : Int) (d n : ByteArray) (ns : List ByteArray) (L : List (List UInt8)) : List UInt8 :=
  if k = 1 then [73, 110, 116]
  else if k = 2 then [84, 101, 120, 116]
  else if k = 3 then [66, 111, 111, 108]
  else if k = 4 then [76, 105, 115, 116, 40] ++ L.getD 0 [] ++ [41]
  else if k = 5 then [123] ++ rowOf L ns L.length ++ [125]
  else if k = 6 then [91] ++ rowOf L ns L.length ++ [93]
  else if k = 7 then [40] ++ rowOf L [] (L.length - 1) ++ [41, 32, 45, 62, 32] ++ L.getD (L.length - 1) []
  else if k = 9 then [60] ++ p.data.toList ++ [32] ++ (dec m).data.toList ++ [32] ++ d.data.toList ++ [32] ++ n.data.toList ++ [62]
  else if d.size = 0 then n.data.toList
  else d.data.toList ++ [46] ++ n.data.toList
mutual
def textT : Ty -> List UInt8
  | .mk k p m d n ns ss => kindText k p m d n ns (textsT ss)
def textsT : List Ty -> List (List UInt8)
  | [] => []
  | t :: r => textT t :: textsT r
end
end Go.Proofs.YteecgiebimdbhaaGreatDoor.M
namespace Go.Proofs.YteecgiebimdbhaaGreatDoor.M
mutual
def sameT : Ty -> Ty -> Bool
  | .mk k p m d n ns ss, .mk k' p' m' d' n' ns' ss' => decide (k = k') && decide (p = p') && decide (m = m') && decide (d = d') && decide (n = n') && decide (ns = ns') && sameL ss ss'
def sameL : List Ty -> List Ty -> Bool
  | [], [] => true
  | [], _ :: _ => false
  | _ :: _, [] => false
  | a :: r, b :: q => sameT a b && sameL r q
end
mutual
theorem sameT_iff : ∀ a b : Ty, sameT a b = true ↔ a = b
  | .mk k p m d n ns ss, .mk k' p' m' d' n' ns' ss' => by
    have := sameL_iff ss ss'
    unfold sameT
    simp only [Bool.and_eq_true, decide_eq_true_eq, this, Ty.mk.injEq];simp only [and_assoc]
theorem sameL_iff : ∀ a b : List Ty, sameL a b = true ↔ a = b
  | [], [] => by simp [sameL]
  | [], _ :: _ => by simp [sameL]
  | _ :: _, [] => by simp [sameL]
  | a :: r, b :: q => by
    have h1 := sameT_iff a b;have h2 := sameL_iff r q;unfold sameL
    simp only [Bool.and_eq_true, h1, h2, List.cons.injEq]
end
theorem sameT_no {a b : Ty} (h : a ≠ b) : sameT a b = false := by
  rw [Bool.eq_false_iff, ne_eq, sameT_iff]; exact h
theorem ty_ext {a b : Ty} (h1 : a.kind = b.kind) (h2 : a.pkg = b.pkg) (h3 : a.major = b.major) (h4 : a.mod = b.mod) (h5 : a.name = b.name) (h6 : a.names = b.names) (h7 : a.subs = b.subs) : a = b := by
  cases a; cases b
  simp only [Ty.kind, Ty.pkg, Ty.major, Ty.mod, Ty.name, Ty.names, Ty.subs] at *;subst h1 h2 h3 h4 h5 h6 h7;rfl
theorem bytes_list {a b : ByteArray} : a.data.toList = b.data.toList ↔ a = b := by
  constructor
  · intro h
    cases a; cases b; simp at h; simpa using h
  · rintro rfl; rfl
theorem list_ext' {α : Type} {a b : List α} (hl : a.length = b.length) (h : ∀ (i : Nat) (x y : α), a[i]? = some x -> b[i]? = some y -> x = y) : a = b := by
  apply List.ext_getElem? 
  intro i;rcases Nat.lt_or_ge i a.length with hi | hi
  · rw [List.getElem?_eq_getElem hi, List.getElem?_eq_getElem (by omega)]
    exact congrArg some (h i _ _ (List.getElem?_eq_getElem hi) (List.getElem?_eq_getElem (by omega)))
  · rw [List.getElem?_eq_none hi, List.getElem?_eq_none (by omega)]
end Go.Proofs.YteecgiebimdbhaaGreatDoor.M
namespace Go.Proofs.YteecgiebimdbhaaGreatDoor.M
open Go
def alnum (c : UInt8) : Bool := anyC (c.toNat : Int)
def Word (l : List UInt8) : Prop := ∀ c ∈ l, alnum c = true
def Halt (l : List UInt8) : Prop := ∀ c r, l = c :: r -> alnum c = false
theorem halt_cons {c : UInt8} {r : List UInt8} (h : alnum c = false) : Halt (c :: r) := fun a s e => by
  simp only [List.cons.injEq] at e;rw [<- e.1]; exact h
theorem word_all {g : Int -> Bool} {f : Int -> Bool} {s : ByteArray} (hf : ∀ n, f n = true -> anyC n = true) (hg : ∀ n, g n = true -> anyC n = true) (h : spell f g s.data.toList = true) : Word s.data.toList := by
  intro c hc;obtain ⟨j, hj, rfl⟩ := List.getElem_of_mem hc;obtain ⟨h0, h1, h2, h3⟩ := (spell_iff _ _ _).1 h;have e : bt s.data.toList j = (((s.data.toList)[j]).toNat : Int) := by unfold bt; rw [List.getD_eq_getElem?_getD, List.getElem?_eq_getElem hj]; rfl
  unfold alnum
  rw [<- e];rcases Nat.eq_zero_or_pos j with h' | h'
  · subst h'; exact hf _ h2
  · exact hg _ (h3 j h' hj)
theorem low_any' (n : Int) (h : lowC n = true) : anyC n = true := by unfold anyC; rw [h]; rfl
theorem up_any' (n : Int) (h : upC n = true) : anyC n = true := by unfold anyC; rw [h]; simp
theorem lowDig_any' (n : Int) (h : lowDigC n = true) : anyC n = true := by
  unfold lowDigC at h; unfold anyC
  rcases Bool.or_eq_true _ _ ▸ h with h | h <;> rw [h] <;> simp
theorem small_spell {s : ByteArray} (h : smallB s.data.toList = true) : spell lowC lowDigC s.data.toList = true := by
  unfold smallB at h; simp only [Bool.and_eq_true] at h; exact h.1
theorem great_spell {s : ByteArray} (h : greatB s.data.toList = true) : spell upC anyC s.data.toList = true := by
  unfold greatB at h; simp only [Bool.and_eq_true] at h; exact h.1
theorem small_word {s : ByteArray} (h : smallB s.data.toList = true) : Word s.data.toList := word_all low_any' lowDig_any' (small_spell h)
theorem great_word {s : ByteArray} (h : greatB s.data.toList = true) : Word s.data.toList := word_all up_any' (fun _ h => h) (great_spell h)
theorem spell_ne {f g : Int -> Bool} {l : List UInt8} (h : spell f g l = true) : l ≠ [] := by
  intro e; subst e
  have := ((spell_iff _ _ _).1 h).1
  simp at this
theorem great_not_word {l : List UInt8} (h : greatB l = true) : l ∉ words := by
  unfold greatB wordB at h
  simp only [Bool.and_eq_true, Bool.not_eq_true', List.contains_eq_mem, decide_eq_false_iff_not] at h;exact h.2
theorem small_not_word {l : List UInt8} (h : smallB l = true) : l ∉ words := by
  intro hm
  have h1 : 97 <= bt l 0 := by
    unfold smallB at h
    simp only [Bool.and_eq_true, spell_iff] at h;have := h.1.2.2.1
    unfold lowC at this
    simp only [Bool.and_eq_true, decide_eq_true_eq] at this;exact this.1
  have h2 : ∀ l ∈ words, bt l 0 < 97 := by decide
  have := h2 l hm
  omega
def Stop (l : List UInt8) : Prop := ∀ c r, l = c :: r -> c = 41 \/ c = 44 \/ c = 125 \/ c = 93
theorem Stop.halt {l : List UInt8} (h : Stop l) : Halt l := fun c r e => by
  rcases h c r e with rfl | rfl | rfl | rfl <;> decide
end Go.Proofs.YteecgiebimdbhaaGreatDoor.M
