/-
  Several texts in one.
-/
import Derived.Test.YteecgiebimdbhaaGreatDoorK07
set_option maxRecDepth 100000
set_option maxHeartbeats 4000000
namespace Go.Proofs.YteecgiebimdbhaaGreatDoor
open Go.RowKit
open Go.Sort
open M
theorem finN_size (s : ByteArray) : ∀ (n i : Nat) (acc : List Tok), (∀ t ∈ acc, t.text.size <= s.size) -> ∀ t ∈ (finN s n i acc).1, t.text.size <= s.size
  | 0, _, acc, h => h
  | n + 1, i, acc, h => by
    unfold finN
    split
    · exact h
    split
    · intro t ht; simp at ht
    split
    · exact finN_size s n _ acc h
    · refine finN_size s n _ _ fun t ht => ?_
      rcases List.mem_append.1 ht with ht | ht
      · exact h t ht
      · rw [List.mem_singleton.1 ht]
        simp only [ByteArray.size_extract];omega
theorem fin_size (s : ByteArray) {ts : List Tok} (h : fin s 0 [] = (ts, -1)) : ∀ t ∈ ts, t.text.size <= s.size := by
  have := finN_size s (s.size - 0) 0 [] (fun t ht => by simp at ht)
  unfold fin at h
  rw [h] at this;exact this
theorem finN_len (s : ByteArray) : ∀ (n i : Nat) (acc : List Tok), (finN s n i acc).1.length <= acc.length + n
  | 0, _, acc => by unfold finN; exact Nat.le_refl _
  | n + 1, i, acc => by
    unfold finN
    split
    · show acc.length <= _; omega
    split
    · show 0 <= _; omega
    split
    · have := finN_len s n (item s.data.toList i).2 acc; omega
    · have := finN_len s n (item s.data.toList i).2 (acc ++ [⟨(item s.data.toList i).1, i, s.extract i (item s.data.toList i).2⟩])
      simp at this; omega
theorem fin_len (s : ByteArray) {ts : List Tok} (h : fin s 0 [] = (ts, -1)) : ts.length <= s.size := by
  have := finN_len s (s.size - 0) 0 []
  unfold fin at h
  rw [h] at this;simpa using this
def tkS (ts : List Tok) : Toks := ⟨ts.length, fun i => ((ts[i]?).map (fun t => (t.kind : Int))).getD 0, fun i => ((ts[i]?).map (fun t => t.text)).getD ⟨#[]⟩⟩
theorem RowAt.toks {w : World} {A : Option Addr} {ts : List Tok} (h : RowAt w A ts) (hs : ∀ t ∈ ts, t.text.size <= 20000) : TokAt w A (tkS ts) := by
  intro i hi;have hi' : i < ts.length := hi
  have ht : ts[i]? = some ts[i] := List.getElem?_eq_getElem hi';obtain ⟨g, hA, hg, h0, h1, h2⟩ := h i _ ht;have eK : (tkS ts).K i = (ts[i].kind : Int) := by unfold tkS; simp [ht]
  have eT : (tkS ts).T i = ts[i].text := by unfold tkS; simp [ht]
  refine ⟨g, 0, _, hA, hg, by rw [Nat.zero_add, eK]; exact h0, by rw [Nat.zero_add]; exact h1, by rw [Nat.zero_add, eT]; exact h2, ?_⟩;rw [eT];have := hs _ (List.getElem_mem hi')
  omega
theorem tkS_small {ts : List Tok} (hs : ∀ t ∈ ts, t.text.size <= 20000) : ∀ i, i < (tkS ts).n -> ((tkS ts).T i).size <= 281474976710656 := fun i hi => by
  have hi' : i < ts.length := hi
  have ht : ts[i]? = some ts[i] := List.getElem?_eq_getElem hi';have eT : (tkS ts).T i = ts[i].text := by unfold tkS; simp [ht]
  rw [eT];have := hs _ (List.getElem_mem hi')
  omega
def SpC (g : Nat) (x : Int) (b : Nat) (w : World) : Prop := g < w.heap.size /\ w.cell? ⟨g, 0, none⟩ = some (.int .i64 x) /\ w.cell? ⟨g, 1, none⟩ = some (.iface 32 (.int .i64 b))
theorem SpAt.cells {g : Nat} {x : Int} {b : Nat} {w : World} (h : SpAt g x b w) : SpC g x b w := ⟨(Array.getElem?_eq_some_iff.1 h).1, by have := cZ h 0; simpa using this, by have := cZ h 1; simpa using this⟩
theorem SpC.below {g : Nat} {x : Int} {b : Nat} {w w' : World} (h : SpC g x b w) (hb : Below w.heap.size w w') : SpC g x b w' := ⟨Nat.lt_of_lt_of_le h.1 hb.size, (hb.cell (p := ⟨g, 0, none⟩) h.1).trans h.2.1, (hb.cell (p := ⟨g, 1, none⟩) h.1).trans h.2.2⟩
theorem SpC.row {g r : Nat} {x : Int} {b : Nat} {w : World} (h : SpC g x b w) (hne : g ≠ r) (vs : Array Value) : SpC g x b (w.setRow r vs) :=
  ⟨by have := h.1; simpa using this, (World.cell?_of_block (a := ⟨g, 0, none⟩) (setRow_other w r g vs hne)).trans h.2.1, (World.cell?_of_block (a := ⟨g, 1, none⟩) (setRow_other w r g vs hne)).trans h.2.2⟩
theorem toks_cases (s : ByteArray) : (∃ ts, fin s 0 [] = (ts, -1)) \/ ∃ k : Nat, fin s 0 [] = ([], (k : Int)) := by
  rcases fin_at s s.size 0 [] (by omega) with h | ⟨k, -, h⟩
  · exact .inl ⟨(fin s 0 []).1, by rw [<- h]⟩
  · exact .inr ⟨k, h⟩
structure Im where
  pkg : ByteArray
  major : Int
  mod : ByteArray
  asn : ByteArray
structure De where
  kind : Int
  name : ByteArray
  typ : Ty
structure Mo where
  name : ByteArray
  imps : List Im
  decs : List De
def kImport : List UInt8 := [105, 109, 112, 111, 114, 116]
def kAs : List UInt8 := [97, 115]
def keyS (S : Toks) (i : Nat) (l : List UInt8) : Bool := decide (i < S.n) && (S.K i == 1) && ((S.T i).data.toList == l)
theorem key_lt {S : Toks} {i : Nat} {l : List UInt8} (h : keyS S i l = true) : i < S.n := by
  unfold keyS at h; simp only [Bool.and_eq_true, decide_eq_true_eq] at h; exact h.1.1
def declK (l : List UInt8) : Int :=
  if l = [111, 112, 97, 113, 117, 101] then 1 else if l = [104, 105, 100, 100, 101, 110] then 2 else if l = [97, 108, 105, 97, 115] then 3 else if l = [118, 97, 108] then 4 else 0
def impR (S : Toks) (i : Nat) : Res Im :=
  if S.small i = false then .err 2 i
  else if S.major (i + 1) = false then .err 2 (i + 1)
  else if S.small (i + 2) = false then .err 2 (i + 2)
  else if keyS S (i + 3) kAs = false then .err 2 (i + 3)
  else if S.small (i + 4) = false then .err 2 (i + 4)
  else .ok ⟨S.T i, digs (S.T (i + 1)).data.toList 0, S.T (i + 2), S.T (i + 4)⟩ (i + 5) 0
def impsR (S : Toks) : Nat -> Nat -> List Im -> Res (List Im)
  | 0, _, _ => .err 99 0
  | f + 1, i, l =>
    if keyS S i kImport = false then .ok l i 0
    else if 20 <= l.length then .err 3 i
    else match impR S (i + 1) with
      | .err b j => .err b j
      | .ok x j _ => impsR S f j (l ++ [x])
def typD (k : Int) (s : ByteArray) : Res Ty -> Res De
  | .err b j => .err b j
  | .ok t j _ => .ok ⟨k, s, t⟩ j 0
def decR (S : Toks) (k : Int) (i : Nat) : Res De :=
  if k = 1 \/ k = 2 then (if S.great i = false then .err 2 i else .ok ⟨k, S.T i, noT⟩ (i + 1) 0)
  else if k = 3 then (if S.great i = false then .err 2 i else if S.sign (i + 1) [61] = false then .err 2 (i + 1) else typD 3 (S.T i) (atR S (i + 2)))
  else (if S.small i = false then .err 2 i else if S.sign (i + 1) [58] = false then .err 2 (i + 1) else typD 4 (S.T i) (atR S (i + 2)))
def declAt (S : Toks) (i : Nat) : Int := if i < S.n then declK (S.T i).data.toList else 0
def oneD (S : Toks) (i n : Nat) : Res De :=
  if declAt S i = 0 then .err 2 i
  else if 60 <= n then .err 3 i
  else decR S (declAt S i) (i + 1)
def decsR (S : Toks) : Nat -> Nat -> List De -> Res (List De)
  | 0, _, _ => .err 99 0
  | f + 1, i, l =>
    if S.n <= i then .ok l i 0
    else match oneD S i l.length with
      | .err b j => .err b j
      | .ok x j _ => decsR S f j (l ++ [x])
def restM (S : Toks) (s : ByteArray) : Res (List Im) -> Res Mo
  | .err b j => .err b j
  | .ok l j _ => match decsR S 61 j [] with
    | .err b i => .err b i
    | .ok ds i _ => .ok ⟨s, l, ds⟩ i 0
theorem atR_le {S : Toks} {i j c : Nat} {t : Ty} (h : atR S i = .ok t j c) : i < j := by
  have := (steps S (2 * S.n + 3)).1 1 i 0 (by omega)
  unfold atR at h
  rw [h] at this;exact this
theorem key_at {S : Toks} {b i : Nat} (l : List UInt8) : ((kAt S b i == 1) && ((tAt S b i).data.toList == l)) = (decide (b = 0) && keyS S i l) := by
  unfold kAt tAt keyS
  by_cases h : b = 0 /\ i < S.n
  · rw [if_pos h, if_pos h]; simp [h.1, h.2]
  · rw [if_neg h]
    by_cases hb : b = 0
    · have : ¬ i < S.n := fun e => h ⟨hb, e⟩
      simp [hb, this]
    · simp [hb]
theorem catKey_any {W : World} {q : Nat} {A : Option Addr} {S : Toks} {cn i b : Nat} {w : World} (hc : CdCtx W q A S w) (h : CSt q A S.n cn i b w) (s : ByteArray) :
    Calls Tryz.prog 105 #[.pointer (some ⟨q, 0, none⟩), .string s] w fun e w' => e = .returned (.bool (decide (b = 0) && keyS S i s.data.toList)) /\ Below w.heap.size w w' := by
  have ST := stands_any hc h 1 s;unfold standB at ST
  rw [key_at] at ST;have HST := hZ ST;clear h hc ST;go_enter Tryz.func105, Tryz.ntmps105
  go_wp2_with fail
  refine HST.out.mono ?_; rintro e w1 ⟨rfl, hb1⟩
  go_wp2_with fail
  go_ret;exact ⟨rfl, hb1⟩
theorem ckey_any {W : World} {q : Nat} {A : Option Addr} {S : Toks} {cn i b : Nat} {w : World} (hc : CdCtx W q A S w) (h : CSt q A S.n cn i b w) (s : ByteArray) :
    Calls Tryz.prog 152 #[.pointer (some ⟨q, 0, none⟩), .string s] w fun e w' => e = .returned (.tuple #[]) /\ CSt q A S.n cn (psI b (keyS S i s.data.toList) i) (psB b (keyS S i s.data.toList)) w' /\ Kp q w w' := by
  have hbig := hc.big;have AK := hZ (catKey_any hc h s);have HH := hZ h;clear hc h;go_enter Tryz.func152, Tryz.ntmps152
  go_wp2_with fail
  refine AK.out.mono ?_; rintro e w1 ⟨rfl, hb1⟩
  have h1 := HH.out.below hb1;have MU := hZ (must_any h1 (decide (b = 0) && keyS S i s.data.toList) 2 (by decide));have HK1 := hZ (Kp.of_below (r := q) hb1)
  have RB : Hid (mustB b (decide (b = 0) && keyS S i s.data.toList) 2 = psB b (keyS S i s.data.toList)) := hZ (by
    unfold mustB psB
    by_cases hb : b = 0
    · subst hb
      cases keyS S i s.data.toList <;> rfl
    · rw [if_neg (fun x => hb x.1), if_neg (fun x => hb x.1)])
  clear h1 hb1 AK;go_wp2_with fail
  refine MU.out.mono ?_; rintro e w2 ⟨rfl, h2, k2⟩
  rw [RB.out] at h2
  have hlt : psB b (keyS S i s.data.toList) = 0 -> i < S.n := fun e => by
    have hb := psB_0 e;subst hb;cases hk : keyS S i s.data.toList with
    | true => exact key_lt hk
    | false => rw [hk] at e; cases e
  have PS := hZ (cpass_any h2 hlt hbig)
  have RI : Hid (upI (psB b (keyS S i s.data.toList)) i = psI b (keyS S i s.data.toList) i) := hZ (by
    by_cases hb : b = 0
    · subst hb
      cases keyS S i s.data.toList <;> rfl
    · rw [psB_bad _ hb, psI_bad _ _ hb, upI_ne _ hb])
  have HK2 := hZ (HK1.out.trans k2);clear h2 k2 MU hlt;go_wp2_with fail
  refine PS.out.mono ?_; rintro e w3 ⟨rfl, h3, k3⟩
  rw [RI.out] at h3;go_wp2_with fail
  go_end0
  exact ⟨rfl, h3, HK2.out.trans k3⟩
section
variable {P : Program} {ops : Array Oper} {Q : Exit -> Act -> World -> Prop} {md : Region.Mode} {S : World -> Prop} {off : Nat -> Bool}
theorem AnyX.go2 (i j : Nat) {o p : Oper} {k : Nat} {listed : Array Bool} {a : Act} {w : World} (hr : Region.ready md ops listed = [i, j]) (ho : ops[i]? = some o) (hg : o.guard = none) (hp : ops[j]? = some p) (hgp : p.guard = none)
    (h : ∀ K : Act -> World -> Prop, Hid (∀ a' w', (off i = false -> S w -> S w') -> AnyX P md ops Q S off k (listed.setIfInBounds i true) a' w' -> K a' w') -> Oper.wp P o a w K Q)
    (h2 : ∀ K : Act -> World -> Prop, Hid (∀ a' w', (off j = false -> S w -> S w') -> AnyX P md ops Q S off k (listed.setIfInBounds j true) a' w' -> K a' w') -> Oper.wp P p a w K Q) : AnyX P md ops Q S off (k + 1) listed a w :=
  ⟨fun h0 => (by rw [hr] at h0; cases h0), fun q hq => by
    rw [hr] at hq;rcases List.mem_cons.1 hq with rfl | hq
    · refine wpOp_step ho fun K hK => ?_
      rw [if_pos (by simp [Region.wanted, hg])];exact h K (hZ fun a w hS hW => hK a w ⟨hS, hW⟩)
    · obtain rfl := List.mem_singleton.1 hq
      refine wpOp_step hp fun K hK => ?_
      rw [if_pos (by simp [Region.wanted, hgp])];exact h2 K (hZ fun a w hS hW => hK a w ⟨hS, hW⟩)⟩
end
def cutR {α : Type} : Res α -> Res α
  | .ok x i _ => .ok x i 0
  | .err b i => .err b i
theorem cell_alloc {w : World} {o : Obj} {a : Addr} {v : Value} (h : w.cell? a = some v) : (w.alloc o).cell? a = some v := (World.cell?_alloc_lt _ _ _ (World.block_lt_of_cell? w _ h)).trans h
def RdC (S : Toks) (i : Nat) (wb : World) (s6 s7 s8 : Value) (wx : World) : Prop :=
  Below wb.heap.size wb wx /\ ∃ g6 : Nat, s6 = .pointer (some ⟨g6, 0, none⟩) /\ wb.heap.size <= g6 /\
    ((∃ (l : List Value) (t : Ty) (j c : Nat), atR S i = .ok t j c /\ s7 = .int .i64 j /\ s8 = .nilIface /\ wx.heap[g6]? = some (.cells l.toArray 55 (0, 0)) /\ TyAt (strike (fun b => b < wb.heap.size \/ b = g6) wx) l t) \/
     (∃ b j g : Nat, atR S i = .err b j /\ b ≠ 0 /\ s7 = .int .i64 0 /\ s8 = .iface 89 (.pointer (some ⟨g, 0, none⟩)) /\ SpAt g j b wx))
theorem RdC.afterOk {S : Toks} {i : Nat} {wb w2 w4 : World} {l : List Value} {t : Ty} {j c g6 : Nat} (hb : Below wb.heap.size wb w2) (hg : wb.heap.size <= g6) (hok : atR S i = .ok t j c) (hT : TyAt (strike (fun b => b < wb.heap.size \/ b = g6) w2) l t)
    (hz : w2.heap.size <= w4.heap.size) (hrow : w4.heap[g6]? = some (.cells l.toArray 55 (0, 0))) (ho : ∀ b, b < w2.heap.size -> b ≠ g6 -> w4.heap[b]? = w2.heap[b]?) (h1 : w4.os = w2.os) (h2 : w4.tape = w2.tape) (h3 : w4.output = w2.output) :
    RdC S i wb (.pointer (some ⟨g6, 0, none⟩)) (.int .i64 j) .nilIface w4 :=
  ⟨⟨h1.trans hb.os, h2.trans hb.tape, h3.trans hb.output, Nat.le_trans hb.size hz, fun k hk => (ho k (Nat.lt_of_lt_of_le hk hb.size) (by omega)).trans (hb.block k hk)⟩, g6, rfl, hg, .inl ⟨l, t, j, c, hok, rfl, rfl, hrow, hT.move hz fun b hlt hS => ⟨hS, ho b hlt (fun e => hS (.inr e))⟩⟩⟩
theorem RdC.afterErr {S : Toks} {i : Nat} {wb w2 w4 : World} {b j g g6 : Nat} (hb : Below wb.heap.size wb w2) (hg : wb.heap.size <= g6) (herr : atR S i = .err b j) (hb0 : b ≠ 0) (hsp : SpAt g j b w2)
    (hz : w2.heap.size <= w4.heap.size) (hgg : g ≠ g6) (ho : ∀ b, b < w2.heap.size -> b ≠ g6 -> w4.heap[b]? = w2.heap[b]?) (h1 : w4.os = w2.os) (h2 : w4.tape = w2.tape) (h3 : w4.output = w2.output) :
    RdC S i wb (.pointer (some ⟨g6, 0, none⟩)) (.int .i64 0) (.iface 89 (.pointer (some ⟨g, 0, none⟩))) w4 :=
  ⟨⟨h1.trans hb.os, h2.trans hb.tape, h3.trans hb.output, Nat.le_trans hb.size hz, fun k hk => (ho k (Nat.lt_of_lt_of_le hk hb.size) (by omega)).trans (hb.block k hk)⟩, g6, rfl, hg, .inr ⟨b, j, g, herr, hb0, rfl, rfl, (ho g (Array.getElem?_eq_some_iff.1 hsp).1 hgg).trans hsp⟩⟩
def TrOut (w : World) (q : Nat) (A : Option Addr) (n cn : Nat) (R : Res Ty) (e : Ending) (w' : World) : Prop :=
  ∃ (l : List Value) (t : Ty) (i' b' : Nat), e = .returned (.agg l.toArray) /\ TyAt (strike (· < w.heap.size) w') l t /\ Kp q w w' /\ CSt q A n cn i' b' w' /\ badR b' i' (.ok t i' 0) = R
structure Reads (α : Type) where
  k : Nat
  T : TypeId
  E : World -> List Value -> α -> Prop
  move : ∀ (S S' : Nat -> Prop) (w w' : World) (l : List Value) (x : α), E (strike S w) l x -> w.heap.size <= w'.heap.size -> (∀ b, b < w.heap.size -> ¬ S b -> ¬ S' b /\ w'.heap[b]? = w.heap[b]?) -> E (strike S' w') l x
  keep : ∀ (w w' : World) (l : List Value) (x : α), E w l x -> Below w.heap.size w w' -> E w' l x
  free : ∀ (S : Nat -> Prop) (w : World) (l : List Value) (x : α), E (strike S w) l x -> E w l x
  len : ∀ (w : World) (l : List Value) (x : α), E w l x -> l.length = k
def RowIn {α : Type} (R : Reads α) (w : World) (A : Option Addr) (xs : List α) : Prop :=
  ∀ i x, xs[i]? = some x -> ∃ (g o : Nat) (l : List Value), A = some ⟨g, o, none⟩ /\ g < w.heap.size /\ (∀ j v, l[j]? = some v -> w.cell? ⟨g, o + i * R.k + j, none⟩ = some v) /\ R.E w l x
theorem RowIn.below {α : Type} {R : Reads α} {w w' : World} {A : Option Addr} {xs : List α} (h : RowIn R w A xs) (hb : Below w.heap.size w w') : RowIn R w' A xs := fun i x hx => by
  obtain ⟨g, o, l, hA, hg, hc, hE⟩ := h i x hx;exact ⟨g, o, l, hA, Nat.lt_of_lt_of_le hg hb.size, fun j v hv => (hb.cell (p := ⟨g, _, none⟩) hg).trans (hc j v hv), R.keep _ _ _ _ hE hb⟩
structure Row {α : Type} (R : Reads α) (lo : Nat) (xs : List α) (A : Option Addr) (c : Nat) (w : World) : Prop where
  cells : ∃ C : List (List Value), C.length = xs.length /\ w.ownsRow lo R.T R.k (.slice A xs.length c) xs.length C.flatten /\
    ∀ (i : Nat) (l : List Value) (x : α), C[i]? = some l -> xs[i]? = some x -> R.E (strike (fun b => b < lo \/ (Value.slice A xs.length c).ownBlock = some b) w) l x
theorem Row.start {α : Type} (R : Reads α) (lo : Nat) (w : World) : Row R lo [] none 0 w := ⟨[], rfl, World.ownsRow_nil _ _ _ _, fun i l x h => by simp at h⟩
theorem Row.keep {α : Type} {R : Reads α} {lo : Nat} {xs : List α} {A : Option Addr} {c : Nat} {w w' : World} (h : Row R lo xs A c w) (hz : w.heap.size <= w'.heap.size) (hb : ∀ b, lo <= b -> b < w.heap.size -> w'.heap[b]? = w.heap[b]?) : Row R lo xs A c w' := by
  obtain ⟨C, h1, h3, h4⟩ := h.cells
  exact ⟨C, h1, own_from h3 hb, fun i l x hl hx => R.move _ _ _ _ _ _ (h4 i l x hl hx) hz fun b hlt hS => ⟨hS, hb b (by
    rcases Nat.lt_or_ge b lo with h | h
    · exact absurd (.inl h) hS
    · exact h) hlt⟩⟩
theorem Row.lt {α : Type} {R : Reads α} {lo : Nat} {xs : List α} {A : Option Addr} {c : Nat} {w : World} (h : Row R lo xs A c w) {b : Nat} (e : (Value.slice A xs.length c).ownBlock = some b) : lo <= b /\ b < w.heap.size := by
  obtain ⟨C, h1, h3, h4⟩ := h.cells;exact h3.lt b e
theorem Row.more {α : Type} {R : Reads α} {lo g cap c : Nat} {xs : List α} {A : Option Addr} {B : Nat} {w1 w3 : World} {o : Obj} {l : List Value} {x : α} {C : List (List Value)}
    (h : Row R lo xs A c w1) (hlo : lo <= B) (hwo : ∀ b, (Value.slice A xs.length c).ownBlock = some b -> b < B)
    (hC1 : C.length = xs.length) (hC4 : ∀ (i : Nat) (l : List Value) (x : α), C[i]? = some l -> xs[i]? = some x -> R.E (strike (fun b => b < lo \/ (Value.slice A xs.length c).ownBlock = some b) w1) l x)
    (hE : R.E (strike (· < B) w1) l x) (hown : w3.ownsRow lo R.T R.k (.slice (some ⟨g, 0, none⟩) (xs.length + 1) cap) (xs.length + 1) (C.flatten ++ l)) (hgrow : (w1.alloc o).grownBy w3 (Value.slice A xs.length c).ownBlock)
    (hat : (Value.slice A xs.length c).ownBlock = some g \/ g = (w1.alloc o).heap.size) :
    Row R lo (xs ++ [x]) (some ⟨g, 0, none⟩) cap w3 /\ (∀ b, (Value.slice A xs.length c).ownBlock ≠ some b -> b < w1.heap.size -> w3.heap[b]? = w1.heap[b]?) /\ w1.heap.size <= w3.heap.size := by
  have hsz : (w1.alloc o).heap.size = w1.heap.size + 1 := by simp
  have hsz3 := hgrow.size
  have hold : ∀ b, b < w1.heap.size -> (Value.slice A xs.length c).ownBlock ≠ some b -> w3.heap[b]? = w1.heap[b]? := fun b hb hne => by
    rw [hgrow.block b (by omega) (fun e => hne e.symm)];exact Lib.alloc_old w1 o b hb
  have mv : ∀ l x, R.E (strike (fun b => b < lo \/ (Value.slice A xs.length c).ownBlock = some b) w1) l x -> R.E (strike (fun b => b < lo \/ (Value.slice (some ⟨g, 0, none⟩) (xs ++ [x]).length cap).ownBlock = some b) w3) l x := fun l x hT => by
    refine R.move _ _ _ _ _ _ hT (by omega) fun b hb hS => ⟨?_, hold b hb (fun e => hS (.inr e))⟩
    rintro (e | e)
    · exact hS (.inl e)
    · simp [Value.ownBlock] at e
      subst e;rcases hat with e | e
      · exact hS (.inr e)
      · omega
  have hT : R.E (strike (fun b => b < lo \/ (Value.slice A xs.length c).ownBlock = some b) w1) l x := R.move _ _ _ _ _ _ hE (Nat.le_refl _) fun b hlt hS => ⟨by
    rintro (e | e)
    · omega
    · have := hwo b e; omega, rfl⟩
  refine ⟨⟨C ++ [l], by simp [hC1], ?_, fun i y u hy hu => ?_⟩, fun b hb hlt => hold b hlt hb, by omega⟩
  · rw [List.length_append]
    simpa using hown
  · rcases Nat.lt_or_ge i xs.length with hi | hi
    · rw [List.getElem?_append_left (by omega)] at hy hu
      have := mv y u (hC4 i y u hy hu)
      simpa [Value.ownBlock] using this
    · have hi' := (List.getElem?_eq_some_iff.1 hy).1
      have : i = xs.length := by simp [hC1] at hi'; omega
      subst this;rw [List.getElem?_append_right (by omega)] at hy hu;simp [hC1] at hy;simp at hu;rw [<- hy, <- hu];have := mv l x hT
      simpa [Value.ownBlock] using this
theorem flatk_at {k : Nat} : ∀ (C : List (List Value)), (∀ l, l ∈ C -> l.length = k) -> ∀ (i q : Nat) (l : List Value), C[i]? = some l -> q < k -> C.flatten[i * k + q]? = l[q]?
  | [], _, i, q, l, h, _ => by simp at h
  | a :: r, hC, i, q, l, h, hq => by
    have ha : a.length = k := hC a List.mem_cons_self;rw [List.flatten_cons];cases i with
    | zero =>
      simp at h; subst h
      rw [List.getElem?_append_left (by omega)];congr 1; omega
    | succ i =>
      rw [List.getElem?_append_right (by rw [ha, Nat.succ_mul]; omega), ha, show (i + 1) * k + q - k = i * k + q by rw [Nat.succ_mul]; omega];exact flatk_at r (fun l hl => hC l (List.mem_cons_of_mem _ hl)) i q l (by simpa using h) hq
theorem Row.done {α : Type} {R : Reads α} {lo : Nat} {xs : List α} {A : Option Addr} {c m : Nat} {w : World} (h : Row R lo xs A c w) (hm : m <= lo) : RowIn R (strike (· < m) w) A xs := by
  intro i x hx;obtain ⟨C, h1, h3, h4⟩ := h.cells;have hi := (List.getElem?_eq_some_iff.1 hx).1;have hl : C[i]? = some C[i] := List.getElem?_eq_getElem (by omega)
  have hall : ∀ l, l ∈ C -> l.length = R.k := fun l hl => by
    obtain ⟨j, hj⟩ := List.mem_iff_getElem?.1 hl;have hj' := (List.getElem?_eq_some_iff.1 hj).1
    exact R.len _ _ _ (h4 j l xs[j] hj (List.getElem?_eq_getElem (by omega)))
  have hE := h4 i _ x hl hx;rcases h3.2 with ⟨e, -⟩ | ⟨g, cap, cur, hv, hB, hg, -, -, hcl, htake⟩
  · cases A with
    | none => simp at e; simp [e.1] at hi
    | some a => simp at e
  · simp at hv
    obtain ⟨rfl, -⟩ := hv;refine ⟨g, 0, C[i], rfl, ?_, fun j v hv => strike_cell.2 ⟨by omega, ?_⟩, R.move _ _ _ _ _ _ hE (Nat.le_refl _) fun b hlt hS => ⟨fun e => hS (.inl (by omega)), rfl⟩⟩
    · rw [strike_size]; exact (Array.getElem?_eq_some_iff.1 hg).1
    · have hj := (List.getElem?_eq_some_iff.1 hv).1
      rw [hall _ (List.getElem_mem (by omega))] at hj;have hf := flatk_at C hall i j _ hl hj;rw [cZ hg, <- Array.getElem?_toList];have e2 : (cur.toList.take (xs.length * R.k))[i * R.k + j]? = C[i][j]? := by rw [htake, hf]
      rw [List.getElem?_take] at e2;split at e2
      · rw [show 0 + i * R.k + j = i * R.k + j by omega, e2]; exact hv
      · rename_i hn
        have : (i + 1) * R.k <= xs.length * R.k := Nat.mul_le_mul_right _ hi
        rw [Nat.succ_mul] at this;omega
def imL (x : Im) : List Value := [.string x.pkg, .int .i64 x.major, .string x.mod, .string x.asn]
def imE (_ : World) (l : List Value) (x : Im) : Prop := l = imL x /\ x.pkg.size <= 9223372036854775807 /\ x.mod.size <= 9223372036854775807 /\ x.asn.size <= 9223372036854775807
def imR : Reads Im := ⟨4, 71, imE, fun _ _ _ _ _ _ h _ _ => h, fun _ _ _ _ h _ => h, fun _ _ _ _ h => h, fun _ l x h => by rw [h.1]; rfl⟩
def deE (w : World) (l : List Value) (d : De) : Prop := d.name.size <= 9223372036854775807 /\ ∃ l7 : List Value, l = .int .i64 d.kind :: .string d.name :: l7 /\ TyAt w l7 d.typ
theorem TyAt.len {w : World} {l : List Value} {t : Ty} (h : TyAt w l t) : l.length = 7 := by
  obtain ⟨_, _, _, _, rfl, -⟩ := h.parts;rfl
def deR : Reads De := ⟨9, 194, deE, fun _ _ _ _ _ _ ⟨hs, l7, e, h⟩ hz hb => ⟨hs, l7, e, h.move hz hb⟩, fun _ _ _ _ ⟨hs, l7, e, h⟩ hb => ⟨hs, l7, e, h.keep hb⟩, fun _ _ _ _ ⟨hs, l7, e, h⟩ => ⟨hs, l7, e, h.free⟩, fun _ l x ⟨_, l7, e, h⟩ => by rw [e]; simp [h.len]⟩
def MoAt (w : World) (l : List Value) (m : Mo) : Prop :=
  ∃ (Ai : Option Addr) (ci : Nat) (Ad : Option Addr) (cd : Nat), l = [.string m.name, .slice Ai m.imps.length ci, .slice Ad m.decs.length cd] /\ m.name.size <= 9223372036854775807 /\ m.imps.length <= 9223372036854775807 /\ m.decs.length <= 9223372036854775807 /\ RowIn imR w Ai m.imps /\ RowIn deR w Ad m.decs
theorem MoAt.below {w w' : World} {l : List Value} {m : Mo} (h : MoAt w l m) (hb : Below w.heap.size w w') : MoAt w' l m := by
  obtain ⟨Ai, ci, Ad, cd, e, h1, h2, h3, h4, h5⟩ := h;exact ⟨Ai, ci, Ad, cd, e, h1, h2, h3, h4.below hb, h5.below hb⟩
theorem RowIn.move {α : Type} {R : Reads α} {S S' : Nat -> Prop} {w w' : World} {A : Option Addr} {xs : List α} (h : RowIn R (strike S w) A xs) (hz : w.heap.size <= w'.heap.size) (hb : ∀ b, b < w.heap.size -> ¬ S b -> ¬ S' b /\ w'.heap[b]? = w.heap[b]?) : RowIn R (strike S' w') A xs := fun i x hx => by
  obtain ⟨g, o, l, hA, hg, hc, hE⟩ := h i x hx;refine ⟨g, o, l, hA, by rw [strike_size] at hg ⊢; omega, fun j v hv => ?_, R.move _ _ _ _ _ _ hE hz hb⟩;obtain ⟨h1, h2⟩ := strike_cell.1 (hc j v hv);obtain ⟨h3, h4⟩ := hb g (World.block_lt_of_cell? _ _ h2) h1;exact strike_cell.2 ⟨h3, by rw [World.cell?_of_block (w := w) (a := ⟨g, _, none⟩) h4]; exact h2⟩
theorem RowIn.free {α : Type} {R : Reads α} {S : Nat -> Prop} {w : World} {A : Option Addr} {xs : List α} (h : RowIn R (strike S w) A xs) : RowIn R w A xs := fun i x hx => by
  obtain ⟨g, o, l, hA, hg, hc, hE⟩ := h i x hx;exact ⟨g, o, l, hA, by rw [strike_size] at hg; exact hg, fun j v hv => (strike_cell.1 (hc j v hv)).2, R.free _ _ _ _ hE⟩
end Go.Proofs.YteecgiebimdbhaaGreatDoor
namespace Go.Proofs.YteecgiebimdbhaaGreatDoor
open Go Go.ChangeShapes Go.WideShapes Go.ChangeAt Go.RowKit Go.Joins Go.Deep
open M
section
variable {H : Type} {enc : TypeId × Value -> H} {w : World} {base : Nat} {sp : Nat -> Bool} {held : Bool}
theorem impCells : Tryz.prog.cellsOf 71 = 4 := by kernel_rfl
theorem modCellsI : Tryz.prog.cellsOf 22 = 1 := by kernel_rfl
theorem list4 {α : Type} : ∀ l : List α, l.length = 4 -> ∃ a b c d, l = [a, b, c, d]
  | [a, b, c, d], _ => ⟨a, b, c, d, rfl⟩
  | [], h => by simp at h
  | [_], h => by simp at h
  | [_, _], h => by simp at h
  | [_, _, _], h => by simp at h
  | _ :: _ :: _ :: _ :: _ :: _, h => by simp at h
theorem open_im (n : Nat) (cs : List Value) (x : DataW H × List MemPlace) (h : DataW.trod enc Tryz.prog w base sp held n 71 cs = some x) : ∃ a, imE w cs a := by
  obtain ⟨xs, n, hfuel, -, hlen, hxl, hf⟩ := DataW.trod_struct Tryz.underlying71 h;rw [impCells] at hlen;obtain ⟨c0, c1, c2, c3, rfl⟩ := list4 cs hlen;have q : ∀ j, j < 4 -> ∃ y, xs[j]? = some y := fun j hj => ⟨_, List.getElem?_eq_getElem (by rw [hxl]; exact hj)⟩
  obtain ⟨y0, e0⟩ := q 0 (by omega); obtain ⟨y1, e1⟩ := q 1 (by omega); obtain ⟨y2, e2⟩ := q 2 (by omega); obtain ⟨y3, e3⟩ := q 3 (by omega)
  have g0 : DataW.trod enc Tryz.prog w base sp held n 9 (([c0, c1, c2, c3].drop 0).take (Tryz.prog.cellsOf 9)) = some y0 := (hf 0 _ rfl).trans e0;have g1 : DataW.trod enc Tryz.prog w base sp held n 3 (([c0, c1, c2, c3].drop 1).take (Tryz.prog.cellsOf 3)) = some y1 := (hf 1 _ rfl).trans e1;have g2 : DataW.trod enc Tryz.prog w base sp held n 9 (([c0, c1, c2, c3].drop 2).take (Tryz.prog.cellsOf 9)) = some y2 := (hf 2 _ rfl).trans e2;have g3 : DataW.trod enc Tryz.prog w base sp held n 9 (([c0, c1, c2, c3].drop 3).take (Tryz.prog.cellsOf 9)) = some y3 := (hf 3 _ rfl).trans e3;rw [tyCellsStr] at g0 g2 g3;rw [tyCellsInt] at g1;obtain ⟨p, k0, -, z0⟩ := DataW.trod_string Tryz.underlying9 g0;obtain ⟨m, k1, -, -⟩ := DataW.trod_int Tryz.underlying3 g1;obtain ⟨d, k2, -, z2⟩ := DataW.trod_string Tryz.underlying9 g2;obtain ⟨a, k3, -, z3⟩ := DataW.trod_string Tryz.underlying9 g3;simp at k0 k1 k2 k3;subst k0 k1 k2 k3;unfold maxLen at z0 z2 z3
  exact ⟨⟨p, m, d, a⟩, rfl, z0, z2, z3⟩
end
end Go.Proofs.YteecgiebimdbhaaGreatDoor
namespace Go.Proofs.YteecgiebimdbhaaGreatDoor
open Go.RowKit
open Go.Sort
open M
theorem impSize : (Tryz.prog.info? 71).map (·.size) = some 4 := by kernel_rfl
theorem impOne {a c d : ByteArray} {b : Int} : (#[.string a, .int .i64 b, .string c, .string d] : Array Value).all (·.oneCell') = true := Array.all_eq_true_iff_forall_mem.2 (fun v hv => by simp at hv; rcases hv with rfl | rfl | rfl | rfl <;> rfl)
theorem imp_info : (Tryz.prog.info? 71).map (fun i => (i.zero, i.size, i.bytes)) = some (some (.agg #[.string ⟨#[]⟩, .int .i64 0, .string ⟨#[]⟩, .string ⟨#[]⟩]), 4, 56) := by kernel_rfl
theorem cell4 {w : World} {b : Nat} {v0 v1 v2 v3 : Value} {T : TypeId} {fr : Nat × Nat} (h : w.heap[b]? = some (.cells #[v0, v1, v2, v3] T fr)) : ∀ i v, ([v0, v1, v2, v3] : List Value)[i]? = some v -> w.cell? ⟨b, i, none⟩ = some v := fun i v hv => by
  rw [cZ h, <- hv, <- List.getElem?_toArray]
theorem imp_chain {S : Toks} {i b : Nat} {s1 s3 s5 : ByteArray} {v : Int} {i1 b1 i2 b2 i3 b3 i5 b5 : Nat}
    (h1 : NameOut S (decide (i < S.n) && smallK (S.K i) (S.T i)) i b s1 i1 b1) (h2 : NumOut S i1 b1 v i2 b2) (h3 : NameOut S (decide (i2 < S.n) && smallK (S.K i2) (S.T i2)) i2 b2 s3 i3 b3)
    (h5 : NameOut S (decide (psI b3 (keyS S i3 kAs) i3 < S.n) && smallK (S.K (psI b3 (keyS S i3 kAs) i3)) (S.T (psI b3 (keyS S i3 kAs) i3))) (psI b3 (keyS S i3 kAs) i3) (psB b3 (keyS S i3 kAs)) s5 i5 b5) :
    badR b5 i5 (.ok (⟨s1, v, s3, s5⟩ : Im) i5 0) = badR b i (impR S i) := by
  have a := nameOut_res h5 (fun s i => Res.ok (⟨s1, v, s3, s⟩ : Im) i 0);rw [small_k] at a;have d := sign_res (keyS S i3 kAs) b3 i3 (fun j => if S.small j = false then Res.err 2 j else .ok (⟨s1, v, s3, S.T j⟩ : Im) (j + 1) 0);have e := nameOut_res h3 (fun s j => if keyS S j kAs = false then Res.err 2 j else if S.small (j + 1) = false then .err 2 (j + 1) else .ok (⟨s1, v, s, S.T (j + 1)⟩ : Im) (j + 1 + 1) 0);rw [small_k] at e;have f := numOut_res h2 (fun v j => if S.small j = false then Res.err 2 j else if keyS S (j + 1) kAs = false then Res.err 2 (j + 1) else if S.small (j + 1 + 1) = false then .err 2 (j + 1 + 1) else .ok (⟨s1, v, S.T j, S.T (j + 1 + 1)⟩ : Im) (j + 1 + 1 + 1) 0);have g := nameOut_res h1 (fun s j => if S.major j = false then Res.err 2 j else if S.small (j + 1) = false then Res.err 2 (j + 1) else if keyS S (j + 1 + 1) kAs = false then Res.err 2 (j + 1 + 1) else if S.small (j + 1 + 1 + 1) = false then .err 2 (j + 1 + 1 + 1) else .ok (⟨s, digs (S.T j).data.toList 0, S.T (j + 1), S.T (j + 1 + 1 + 1)⟩ : Im) (j + 1 + 1 + 1 + 1) 0);rw [small_k] at g;exact a.trans (d.trans (e.trans (f.trans g)))
def ImOut (w : World) (q : Nat) (A : Option Addr) (n cn : Nat) (R : Res Im) (e : Ending) (w' : World) : Prop :=
  ∃ (x : Im) (i' b' : Nat), e = .returned (.agg #[.string x.pkg, .int .i64 x.major, .string x.mod, .string x.asn]) /\ x.pkg.size <= 9223372036854775807 /\ x.mod.size <= 9223372036854775807 /\ x.asn.size <= 9223372036854775807 /\ Kp q w w' /\ CSt q A n cn i' b' w' /\ badR b' i' (.ok x i' 0) = R
theorem cimp_any {W : World} {q : Nat} {A : Option Addr} {S : Toks} {cn i b : Nat} {w : World} (hc : CdCtx W q A S w) (h : CSt q A S.n cn i b w) (he : CEnv W) :
    Calls Tryz.prog 108 #[.pointer (some ⟨q, 0, none⟩)] w (ImOut w q A S.n cn (badR b i (impR S i))) := by
  have hq := h.lt;obtain ⟨w0, hw0⟩ : ∃ w0, w0 = w.alloc (.cells #[.string ⟨#[]⟩, .int .i64 0, .string ⟨#[]⟩, .string ⟨#[]⟩] 71) := ⟨_, rfl⟩;have B0 : Below w.heap.size w w0 := by rw [hw0]; exact below_new (Below.refl _ _) _
  have s0 : w0.heap.size = w.heap.size + 1 := by rw [hw0]; simp
  have X0 : w0.heap[w.heap.size]? = some (.cells #[.string ⟨#[]⟩, .int .i64 0, .string ⟨#[]⟩, .string ⟨#[]⟩] 71 (0, 0)) := by rw [hw0]; exact heap_alloc_new w _
  have K0 := Kp.of_below (r := q) B0;have C0 := hc.on K0 hq;have WD := hZ (cword_any C0 (h.below B0) _ _ asksSmall (by decide));have HC0 := hZ C0;have HX0 := hZ X0;have HK0 := hZ K0;have HW0 := hZ hw0;have HE := hZ he;have hl0 : w.heap.size < w0.heap.size := by omega
  have hq0 : q < w0.heap.size := by omega
  clear hc h he hw0 B0 X0 K0 C0 s0;go_enter Tryz.func108, Tryz.ntmps108
  go_upto_region 1 with fail
  rw [<- HW0.out];go_wp2_with fail
  refine WD.out.mono ?_; rintro e w1 ⟨s1, i1, b1, rfl, z1, h1, k1, hN1⟩
  have C1 := HC0.out.on k1 hq0;have NM := hZ (cmajor_any C1 h1 HE.out);have HC1 := hZ C1;have HX1 := hZ ((k1.blk hl0 (by omega)).trans HX0.out);have HK1 := hZ (HK0.out.trans k1);have HN1 := hZ hN1;have hl1 := Nat.lt_of_lt_of_le hl0 k1.size;have hq1 := Nat.lt_of_lt_of_le hq0 k1.size;clear h1 k1 C1 hN1 WD HC0 HX0 HK0;go_wp2_with fail
  refine NM.out.mono ?_; rintro e w2 ⟨v, i2, b2, rfl, h2, k2, hN2⟩
  have C2 := HC1.out.on k2 hq1;have WD := hZ (cword_any C2 h2 _ _ asksSmall (by decide));have HC2 := hZ C2;have HX2 := hZ ((k2.blk hl1 (by omega)).trans HX1.out);have HK2 := hZ (HK1.out.trans k2);have HN2 := hZ hN2;have hl2 := Nat.lt_of_lt_of_le hl1 k2.size;have hq2 := Nat.lt_of_lt_of_le hq1 k2.size;clear h2 k2 C2 hN2 NM HC1 HX1 HK1;go_wp2_with fail
  refine WD.out.mono ?_; rintro e w3 ⟨s3, i3, b3, rfl, z3, h3, k3, hN3⟩
  have C3 := HC2.out.on k3 hq2;have KY := hZ (ckey_any C3 h3 ⟨#[97, 115]⟩);have HC3 := hZ C3;have HX3 := hZ ((k3.blk hl2 (by omega)).trans HX2.out);have HK3 := hZ (HK2.out.trans k3);have HN3 := hZ hN3;have hl3 := Nat.lt_of_lt_of_le hl2 k3.size;have hq3 := Nat.lt_of_lt_of_le hq2 k3.size;clear h3 k3 C3 hN3 WD HC2 HX2 HK2;go_wp2_with fail
  refine KY.out.mono ?_; rintro e w4 ⟨rfl, h4, k4⟩
  have C4 := HC3.out.on k4 hq3;have WD := hZ (cword_any C4 h4 _ _ asksSmall (by decide));have HX4 := hZ ((k4.blk hl3 (by omega)).trans HX3.out);have HK4 := hZ (HK3.out.trans k4);have hl4 := Nat.lt_of_lt_of_le hl3 k4.size;clear h4 k4 C4 KY HC3 HX3 HK3;go_wp2_with fail
  refine WD.out.mono ?_; rintro e w5 ⟨s5, i5, b5, rfl, z5, h5, k5, hN5⟩
  have X5 := (k5.blk hl4 (by omega)).trans HX4.out;have K5 := HK4.out.trans k5
  have SEAL : Hid (ImOut w q A S.n cn (badR b i (impR S i)) (.returned (.agg #[.string s1, .int .i64 v, .string s3, .string s5])) (w5.setRow w.heap.size #[.string s1, .int .i64 v, .string s3, .string s5])) := hZ
    ⟨⟨s1, v, s3, s5⟩, i5, b5, rfl, by show s1.size <= _; omega, by show s3.size <= _; omega, by show s5.size <= _; omega,
      ⟨K5.os, K5.tape, K5.output, by have := K5.size; simpa using this, fun k hk hne => (setRow_other w5 w.heap.size k _ (by omega)).trans (K5.block k hk hne)⟩,
      h5.keep (setRow_other w5 w.heap.size q _ (by omega)) (fun g vs fr hg => setRow_other w5 w.heap.size g _ (two_types hg X5 (by decide))), imp_chain HN1.out HN2.out HN3.out hN5⟩
  have HX5 := hZ X5;clear h5 k5 K5 hN5 WD HX4 HK4;go_wp2_with (first | ((with_reducible refine wpList_putRow 71 (w.heap.size) #[.string s1, .int .i64 v, .string s3, .string s5] _ _ X5 ?_ ?_ ?_ ?_ ?_ ?_); exact impSize; rfl; exact impOne; iterate 2 (focus (first | (go_simp; done) | rfl))))
  exact ret_agg1 (fn := Tryz.f108) (vs := [.string s1, .int .i64 v, .string s3, .string s5]) (b := w.heap.size) rfl rfl Tryz.underlying71 (by kernel_rfl) (cell4 (setRow_heap w5 w.heap.size _ _ _ _ HX5.out)) rfl SEAL.out
theorem impR_ok {S : Toks} {i j c : Nat} {x : Im} (h : impR S i = .ok x j c) : j = i + 5 := by
  unfold impR at h
  split at h
  · cases h
  split at h
  · cases h
  split at h
  · cases h
  split at h
  · cases h
  split at h
  · cases h
  · cases h; rfl
theorem imps_no {S : Toks} {b i n : Nat} {xs : List Im} (hn : xs.length <= 20 \/ b ≠ 0) (h : (decide (b = 0) && keyS S i kImport) = false) : badR b i (impsR S (21 - xs.length) i xs) = badR b i (.ok xs i 0) := by
  by_cases hb : b = 0
  · subst hb
    rw [badR_0, badR_0, show 21 - xs.length = (20 - xs.length) + 1 by omega];unfold impsR
    rw [if_pos (by simpa using h)]
  · rw [badR_ne _ _ hb, badR_ne _ _ hb]
theorem imps_yes {S : Toks} {i i5 b5 : Nat} {xs : List Im} {x : Im} (hn : xs.length <= 20) (hk : keyS S i kImport = true)
    (h : badR b5 i5 (.ok x i5 0) = badR (mustB 0 (decide ((xs.length : Int) < 20)) 3) (upI (mustB 0 (decide ((xs.length : Int) < 20)) 3) i) (impR S (upI (mustB 0 (decide ((xs.length : Int) < 20)) 3) i))) :
    impsR S (21 - xs.length) i xs = badR b5 i5 (impsR S (21 - (xs ++ [x]).length) i5 (xs ++ [x])) /\ (b5 = 0 -> xs.length < 20 /\ i < i5) := by
  rw [show 21 - xs.length = (20 - xs.length) + 1 by omega]
  have e0 : ∀ f, impsR S (f + 1) i xs = if keyS S i kImport = false then .ok xs i 0 else if 20 <= xs.length then .err 3 i else match impR S (i + 1) with
      | .err b j => .err b j
      | .ok x j _ => impsR S f j (xs ++ [x]) := fun f => rfl
  rw [e0, if_neg (by rw [hk]; decide)];have e1 : (xs ++ [x]).length = xs.length + 1 := by simp
  rw [e1, show 21 - (xs.length + 1) = 20 - xs.length by omega];by_cases hl : xs.length < 20
  · have hd : decide ((xs.length : Int) < 20) = true := by simp; omega
    rw [hd, mustB_yes, upI_0, badR_0] at h;rw [if_neg (by omega), <- h];by_cases hb : b5 = 0
    · subst hb
      have h6 := impR_ok h.symm;exact ⟨rfl, fun _ => ⟨hl, by omega⟩⟩
    · rw [badR_ne _ _ hb, badR_ne _ _ hb]
      exact ⟨rfl, fun e => absurd e hb⟩
  · have hd : decide ((xs.length : Int) < 20) = false := by simp; omega
    have h3 : (3 : Nat) ≠ 0 := by decide
    rw [hd, mustB_no, upI_ne _ h3, badR_ne _ _ h3] at h;rw [if_pos (by omega)];by_cases hb : b5 = 0
    · subst hb; cases h
    · rw [badR_ne _ _ hb] at h
      rw [badR_ne _ _ hb];refine ⟨?_, fun e => absurd e hb⟩;cases h
      rfl
structure IpI (w : World) (q : Nat) (A : Option Addr) (S : Toks) (cn : Nat) (F : Res (List Im)) (xs : List Im) (A3 : Option Addr) (c3 i b : Nat) (wr : World) : Prop where
  kp : Kp q w wr
  rows : Row imR w.heap.size xs A3 c3 wr
  cur : CSt q A S.n cn i b wr
  fin : F = badR b i (impsR S (21 - xs.length) i xs)
  some : xs.length <= 21
  most : b = 0 -> xs.length <= 20
def IpOut (w : World) (q : Nat) (A : Option Addr) (S : Toks) (cn : Nat) (F : Res (List Im)) (e : Ending) (w' : World) : Prop :=
  ∃ (xs : List Im) (A3 : Option Addr) (c3 i b : Nat), e = .returned (.slice A3 xs.length c3) /\ Kp q w w' /\ Row imR w.heap.size xs A3 c3 w' /\ CSt q A S.n cn i b w' /\ F = badR b i (.ok xs i 0) /\ xs.length <= 21
theorem cimps_any {W : World} {q : Nat} {A : Option Addr} {S : Toks} {cn i b : Nat} {w : World} (hc : CdCtx W q A S w) (h : CSt q A S.n cn i b w) (he : CEnv W) :
    Calls Tryz.prog 67 #[.pointer (some ⟨q, 0, none⟩)] w (IpOut w q A S cn (badR b i (impsR S 21 i []))) := by
  have hq := h.lt;have hbig := hc.big;obtain ⟨F, hF⟩ : ∃ F, badR b i (impsR S 21 i []) = F := ⟨_, rfl⟩;rw [hF];have INV : Hid (IpI w q A S cn F [] none 0 i b w) := hZ ⟨Kp.refl _ _, Row.start _ _ _, h, hF.symm, by simp, fun _ => by simp⟩;have HC := hZ hc;have HE := hZ he;clear hF h hc he;go_enter Tryz.func67, Tryz.ntmps67
  go_wp2_with fail
  go_loopw [3] (fun m wr => ∃ (xs : List Im) (A3 : Option Addr) (c3 i b : Nat), m = .slice A3 xs.length c3 /\ Hid (IpI w q A S cn F xs A3 c3 i b wr)) (fun _ wr => cuM q S.n wr)
  case atStart => exact ⟨[], none, 0, i, b, rfl, INV⟩
  case round =>
    obtain ⟨xs, A3, c3, i, b, rfl, HI⟩ := hrel;obtain ⟨wo, rfl⟩ : ∃ wo : World, wo = wr := ⟨_, rfl⟩;have C0 := HC.out.on HI.out.kp hq;have AK := hZ (catKey_any C0 HI.out.cur ⟨#[105, 109, 112, 111, 114, 116]⟩);have hso := HI.out.kp.size;clear C0;go_wp2_with fail
    refine AK.out.mono ?_; rintro e w1 ⟨rfl, hb1⟩
    obtain ⟨v, hv⟩ : ∃ v, (decide (b = 0) && keyS S i (ByteArray.mk #[105, 109, 112, 111, 114, 116]).data.toList) = v := ⟨_, rfl⟩;rw [hv];have HV : Hid ((decide (b = 0) && keyS S i kImport) = v) := hZ hv;have hs1 := hb1.size;have K1 := HI.out.kp.trans (Kp.of_below (r := q) hb1);have ROW1 := HI.out.rows.keep hs1 (fun b' hb hlt => hb1.block b' hlt);have h1 := HI.out.cur.below hb1;clear hv AK;cases v with
    | false =>
      have OUT : Hid (IpOut w q A S cn F (.returned (.slice A3 xs.length c3)) w1) := hZ ⟨xs, A3, c3, i, b, rfl, K1, ROW1, h1, (by rw [HI.out.fin]; exact imps_no (n := 0) (Classical.byCases (fun hb : b = 0 => .inl (HI.out.most hb)) (fun hb => .inr hb)) HV.out), HI.out.some⟩;clear h1 K1 ROW1 HI hb1;go_wp2_with fail
      go_ret;exact OUT.out
    | true =>
      have hbk : b = 0 /\ keyS S i kImport = true := by have := HV.out; simpa using this
      obtain ⟨hb0, hk⟩ := hbk;subst hb0;have hin := key_lt hk;have h20 := HI.out.most rfl;have MI := hZ HI.out.cur.m;have HF : Hid (F = impsR S (21 - xs.length) i xs) := hZ (by rw [HI.out.fin, badR_0]);have hn63 : ¬ ((xs.length : Int) > 9223372036854775807) := by omega
      have MU := hZ (must_any h1 (decide ((xs.length : Int) < 20)) 3 (by decide));have HK1 := hZ K1;have HR1 := hZ ROW1;have YES : Hid (∀ i5 b5 x, badR b5 i5 (.ok x i5 0) = badR (mustB 0 (decide ((xs.length : Int) < 20)) 3) (upI (mustB 0 (decide ((xs.length : Int) < 20)) 3) i) (impR S (upI (mustB 0 (decide ((xs.length : Int) < 20)) 3) i)) -> _) := hZ (fun i5 b5 x h => imps_yes (x := x) h20 hk h);obtain ⟨u, hu⟩ : ∃ u, decide ((xs.length : Int) < 20) = u := ⟨_, rfl⟩;rw [hu] at YES MU;clear h1 K1 ROW1 HI hb1 hk;go_wp2_with fail
      refine MU.out.mono ?_; rintro e w2 ⟨rfl, h2, k2⟩
      have PS := hZ (cpass_any h2 (fun _ => hin) hbig);have hs2 := k2.size;have HK2 := hZ (HK1.out.trans k2);have HR2 := hZ (HR1.out.keep hs2 (fun b' hb hlt => k2.blk hlt (by omega)));clear h2 k2 MU hu HK1 HR1;go_wp2_with fail
      refine PS.out.mono ?_; rintro e w3 ⟨rfl, h3, k3⟩
      have hs3 := k3.size;have HK3 := hZ (HK2.out.trans k3);have HR3 := hZ (HR2.out.keep hs3 (fun b' hb hlt => k3.blk hlt (by omega)));have RE := hZ (cimp_any (HC.out.on HK3.out hq) h3 HE.out);clear h3 k3 PS HK2 HR2;go_wp2_with fail
      refine RE.out.mono ?_; rintro e w4 ⟨x, i4, b4, rfl, z1, z2, z3, k4, h4, hres⟩
      have hs4 := k4.size;have ROW4 := HR3.out.keep hs4 (fun b' hb hlt => k4.blk hlt (by omega));have K4 := HK3.out.trans k4;obtain ⟨C, hC1, hown, hC4⟩ := ROW4.cells;obtain ⟨inf, hi1', hy0, hy1, hy2⟩ := info_parts imp_info;have hMX : xs.length + 1 <= maxLen := by unfold maxLen; omega
      have hwo : ∀ b, (Value.slice A3 xs.length c3).ownBlock = some b -> b < w3.heap.size := fun b e => (HR3.out.lt e).2
      have hlow : ∀ b, (Value.slice A3 xs.length c3).ownBlock = some b -> w.heap.size <= b := fun b e => (HR3.out.lt e).1
      have hAL : w.heap.size <= (w4.alloc (.cells #[.string x.pkg, .int .i64 x.major, .string x.mod, .string x.asn] 71)).heap.size := by have e1 : (w4.alloc (.cells #[.string x.pkg, .int .i64 x.major, .string x.mod, .string x.asn] 71)).heap.size = w4.heap.size + 1 := (by simp); omega
      have hNW : ∀ j u, ([.string x.pkg, .int .i64 x.major, .string x.mod, .string x.asn] : List Value)[j]? = some u -> (w4.alloc (.cells #[.string x.pkg, .int .i64 x.major, .string x.mod, .string x.asn] 71)).cell? ((⟨w4.heap.size, 0, none⟩ : Addr).add j) = some u := fun q u hq => by rw [WideShapes.add_plain, Nat.zero_add, cZ (heap_alloc_new w4 _), <- hq, <- List.getElem?_toArray]
      go_wp2_with (first | (refine wpList_append_lies _ rfl (.tmp 13) (.tmp 16) 22 rfl w.heap.size 71 inf _ 4 56 Tryz.underlying22 hi1' hy0 hy1 hy2 (by rfl) (Nat.zero_lt_succ 3) (.slice A3 xs.length c3) xs.length _ rfl (hown.alloc _) ⟨w4.heap.size, 0, none⟩ 1 1 [.string x.pkg, .int .i64 x.major, .string x.mod, .string x.asn] rfl rfl hNW (fun u hu => by simp at hu; rcases hu with rfl | rfl | rfl | rfl <;> rfl) Nat.one_pos hMX (by omega) hAL _ rfl ?_; intro gb cap w5 hown5 hgrow hat hlt5))
      obtain ⟨ROW5, old5, hs5⟩ := Row.more ROW4 (B := w3.heap.size) (by omega) hwo hC1 hC4 (x := x) ⟨rfl, z1, z2, z3⟩ hown5 hgrow hat;have K5 : Kp q w w5 := (K4.alloc _).grow hgrow hlow;obtain ⟨hF5, hlim⟩ := YES.out i4 b4 x hres
      have h5 : CSt q A S.n cn i4 b4 w5 := h4.keep (old5 q (fun e => by have := hlow q e; omega) h4.lt) (fun g vs fr hg => old5 g (fun e => by
        rcases hown.2 with ⟨e1, -⟩ | ⟨g6, cap6, cur6, hv, -, hg6, -⟩
        · rw [e1] at e; simp [Value.ownBlock] at e
        · rw [hv] at e; simp [Value.ownBlock] at e
          subst e;exact two_types hg hg6 (by decide) rfl) (Array.getElem?_eq_some_iff.1 hg).1)
      have INV5 : Hid (IpI w q A S cn F (xs ++ [x]) (some ⟨gb, 0, none⟩) cap i4 b4 w5) := hZ
        ⟨K5, ROW5, h5, by rw [HF.out]; exact hF5, by simp; omega, fun e => by have := (hlim e).1; simp; omega⟩
      have MEAS : Hid (cuM q S.n w5 < cuM q S.n wo) := hZ (by
        rw [MI.out, h5.m];simp only [if_true];split
        · rename_i e
          have := hlim e
          omega
        · omega)
      have hlen : (xs ++ [x]).length = xs.length + 1 := by simp
      clear k4 h4 hres ROW4 K4 hC1 hown hC4 hi1' hy0 hy1 hy2 hNW hown5 hgrow hat hlt5 ROW5 K5 old5 hs5 h5 hlim hF5 RE HR3 HK3 hwo hlow hAL;go_wp2_with fail
      go_roundw
      case rel => exact ⟨xs ++ [x], some ⟨gb, 0, none⟩, cap, i4, b4, by rw [hlen], INV5⟩
      case measure => exact MEAS.out
theorem name_sign_le {S : Toks} {b1 i5 i6 b6 : Nat} {s : ByteArray} {p : Int -> ByteArray -> Bool} {l : List UInt8} (_ : b1 = 0 -> i5 <= S.n) (h : NameOut S (decide (i5 < S.n) && p (S.K i5) (S.T i5)) i5 b1 s i6 b6) (e : psB b6 (S.sign i6 l) = 0) : psI b6 (S.sign i6 l) i6 <= S.n := by
  have h6 := psB_0 e;subst h6;cases hs : S.sign i6 l with
  | true => have := sign_lt hs; rw [psI_yes]; omega
  | false => rw [hs] at e; cases e
def restD (S : Toks) (s : ByteArray) (l : List Im) (i : Nat) (xs : List De) : Res Mo :=
  match decsR S (61 - xs.length) i xs with
  | .err b i => .err b i
  | .ok ds i _ => .ok ⟨s, l, ds⟩ i 0
def Mx (d : Nat) (nm : ByteArray) (Ai : Option Addr) (ni ci : Nat) (Ad : Option Addr) (nd cd : Nat) (w : World) : Prop := w.heap[d]? = some (.cells #[.string nm, .slice Ai ni ci, .slice Ad nd cd] 139 (0, 0))
structure MpI (w : World) (q : Nat) (A : Option Addr) (S : Toks) (cn : Nat) (F : Res Mo) (d lo B6 : Nat) (nm : ByteArray) (l : List Im) (Ai : Option Addr) (ci : Nat) (xs : List De) (Ad : Option Addr) (cd i b : Nat) (wr : World) : Prop where
  kp : Kp q w wr
  box : Mx d nm Ai l.length ci Ad xs.length cd wr
  res : wr.heap[w.heap.size]? = some (.cells #[.string ⟨#[]⟩, .slice none 0 0, .slice none 0 0] 139 (0, 0))
  ims : RowIn imR (strike (fun b => b < B6 \/ lo <= b) wr) Ai l
  rows : Row deR lo xs Ad cd wr
  cur : CSt q A S.n cn i b wr
  fin : F = badR b i (restD S nm l i xs)
  most : b = 0 -> xs.length <= 60
  some : xs.length <= 61
  lole : lo <= wr.heap.size
theorem tkS_big {ts : List Tok} (h : ts.length <= 20000) : (tkS ts).n <= 9223372036854775806 := by show ts.length <= _; omega
def Rm (r : Nat) (A : Option Addr) (n cn : Nat) (i b : Nat) (w : World) : Prop := w.heap[r]? = some (.cells #[.slice A n cn, .int .i64 i, .int .i64 b] 85 (0, 0))
theorem row_more {α : Type} {R : Reads α} {lo d g cap c B : Nat} {xs : List α} {A : Option Addr} {w1 w3 : World} {o : Obj} {l : List Value} {x : α} {C : List (List Value)} {old : Array Value} {T : TypeId} {k : Nat}
    (h : Row R lo xs A c w1) (hlo : lo <= B) (hB1 : B <= w1.heap.size) (hwo : ∀ b, (Value.slice A xs.length c).ownBlock = some b -> b < B)
    (hC1 : C.length = xs.length) (hC4 : ∀ (i : Nat) (l : List Value) (x : α), C[i]? = some l -> xs[i]? = some x -> R.E (strike (fun b => b < lo \/ (Value.slice A xs.length c).ownBlock = some b) w1) l x)
    (hE : R.E (strike (· < B) w1) l x) (hown : w3.ownsRow lo R.T R.k (.slice (some ⟨g, 0, none⟩) (xs.length + 1) cap) (xs.length + 1) (C.flatten ++ l)) (hgrow : (w1.alloc o).grownBy w3 (Value.slice A xs.length c).ownBlock)
    (hat : (Value.slice A xs.length c).ownBlock = some g \/ g = (w1.alloc o).heap.size) (hd : d < lo) (hbox : w1.heap[d]? = some (.cells old T (0, 0))) (hk : old[k]? = some (.slice A xs.length c)) :
    Row R lo (xs ++ [x]) (some ⟨g, 0, none⟩) cap (w3.setCell ⟨d, k, none⟩ (.slice (some ⟨g, 0, none⟩) (xs.length + 1) cap)) /\
    (w3.setCell ⟨d, k, none⟩ (.slice (some ⟨g, 0, none⟩) (xs.length + 1) cap)).heap[d]? = some (.cells (old.setIfInBounds k (.slice (some ⟨g, 0, none⟩) (xs.length + 1) cap)) T (0, 0)) /\
    (∀ b, b < lo -> b ≠ d -> (w3.setCell ⟨d, k, none⟩ (.slice (some ⟨g, 0, none⟩) (xs.length + 1) cap)).heap[b]? = w1.heap[b]?) /\
    (∀ m, m <= d -> Below m w1 (w3.setCell ⟨d, k, none⟩ (.slice (some ⟨g, 0, none⟩) (xs.length + 1) cap))) /\
    w3.cell? ⟨d, k, none⟩ = some (.slice A xs.length c) /\ w3.frozen? ⟨d, k, none⟩ = false /\ w1.heap.size <= (w3.setCell ⟨d, k, none⟩ (.slice (some ⟨g, 0, none⟩) (xs.length + 1) cap)).heap.size := by
  obtain ⟨R3, old3, hs3⟩ := Row.more h hlo hwo hC1 hC4 hE hown hgrow hat;have hlow : ∀ b, (Value.slice A xs.length c).ownBlock = some b -> lo <= b := fun b e => (h.lt e).1
  have hd1 : d < w1.heap.size := (Array.getElem?_eq_some_iff.1 hbox).1;have B3 := (old3 d (fun e => by have := hlow d e; omega) hd1).trans hbox;have ot : ∀ b, b ≠ d -> (w3.setCell ⟨d, k, none⟩ (.slice (some ⟨g, 0, none⟩) (xs.length + 1) cap)).heap[b]? = w3.heap[b]? := fun b hb => Below.heap_setCell _ _ _ _ (by show b ≠ d; exact hb)
  have of : ∀ b, b < lo -> b ≠ d -> (w3.setCell ⟨d, k, none⟩ (.slice (some ⟨g, 0, none⟩) (xs.length + 1) cap)).heap[b]? = w1.heap[b]? := fun b hb hne => (ot b hne).trans (old3 b (fun e => by have := hlow b e; omega) (by omega))
  refine ⟨R3.keep (by simp) (fun b hb hlt => ot b (by omega)), Joins.block_setCell (i := k) B3 _, of, fun m hm => ?_, ?_, Lib.frozen_of_heap B3 k, by simp; omega⟩
  · have hgw := hgrow
    exact ⟨hgw.os.trans rfl, hgw.tape.trans rfl, hgw.output.trans rfl, by simp; omega, fun j hj => of j (by omega) (by omega)⟩
  · rw [cZ B3 k]; exact hk
structure J1 (W w : World) (r d lo : Nat) (A : Option Addr) (S : Toks) (cn : Nat) (F : Res Mo) (nm : ByteArray) (xs : List Im) (Ai : Option Addr) (ci i b : Nat) (wr : World) : Prop where
  kb : Below W.heap.size W wr
  box : Mx d nm Ai xs.length ci none 0 0 wr
  rows : Row imR lo xs Ai ci wr
  cur : Rm r A S.n cn i b wr
  fin : F = badR b i (restM S nm (impsR S (21 - xs.length) i xs))
  most : xs.length <= 20
  lole : lo <= wr.heap.size
structure J2 (W w : World) (r d lo l2 : Nat) (A : Option Addr) (S : Toks) (cn : Nat) (F : Res Mo) (nm : ByteArray) (l : List Im) (Ai : Option Addr) (ci : Nat) (xs : List De) (Ad : Option Addr) (cd i b : Nat) (wr : World) : Prop where
  kb : Below W.heap.size W wr
  box : Mx d nm Ai l.length ci Ad xs.length cd wr
  ims : RowIn imR (strike (fun b => b < lo \/ l2 <= b) wr) Ai l
  rows : Row deR l2 xs Ad cd wr
  cur : Rm r A S.n cn i b wr
  fin : F = badR b i (restD S nm l i xs)
  most : xs.length <= 60
  lole : l2 <= wr.heap.size
end Go.Proofs.YteecgiebimdbhaaGreatDoor
