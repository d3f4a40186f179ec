/-
  Several texts in one.
-/
import Derived.Test.YtddlmigofilejaaGreatDoorK16
open List (getElem_toArray getElem_cons_succ getElem_cons_zero set_cons_zero set_cons_succ setIfInBounds_toArray)
set_option maxRecDepth 100000
set_option maxHeartbeats 4000000
namespace Go.Proofs.YtddlmigofilejaaGreatDoor
open Go.RowKit
open Go.Sort
open M
structure Im where
  pkg : ByteArray
  major : Int
  mod : ByteArray
  asn : ByteArray
structure De where
  kind : Int
  name : ByteArray
  typ : Ty
structure Mo where
  name : ByteArray
  imps : List Im
  decs : List De
def kImport : List UInt8 := [105, 109, 112, 111, 114, 116]
def kAs : List UInt8 := [97, 115]
def keyS (S : Toks) (i : Nat) (l : List UInt8) : Bool := decide (i < S.n) && (S.K i == 1) && ((S.T i).data.toList == l)
theorem key_lt {S : Toks} {i : Nat} {l : List UInt8} (h : keyS S i l = true) : i < S.n := by
  unfold keyS at h; simp only [Bool.and_eq_true, decide_eq_true_eq] at h; exact h.1.1
def declK (l : List UInt8) : Int :=
  if l = [111, 112, 97, 113, 117, 101] then 1 else if l = [104, 105, 100, 100, 101, 110] then 2 else if l = [97, 108, 105, 97, 115] then 3 else if l = [118, 97, 108] then 4 else 0
def impR (S : Toks) (i : Nat) : Res Im :=
  if S.small i = false then .err 2 i
  else if S.major (i + 1) = false then .err 2 (i + 1)
  else if S.small (i + 2) = false then .err 2 (i + 2)
  else if keyS S (i + 3) kAs = false then .err 2 (i + 3)
  else if S.small (i + 4) = false then .err 2 (i + 4)
  else .ok ⟨S.T i, digs (S.T (i + 1)).data.toList 0, S.T (i + 2), S.T (i + 4)⟩ (i + 5) 0
def impsR (S : Toks) : Nat -> Nat -> List Im -> Res (List Im)
  | 0, _, _ => .err 99 0
  | f + 1, i, l =>
    if keyS S i kImport = false then .ok l i 0
    else if 20 <= l.length then .err 3 i
    else match impR S (i + 1) with
      | .err b j => .err b j
      | .ok x j _ => impsR S f j (l ++ [x])
def typD (k : Int) (s : ByteArray) : Res Ty -> Res De
  | .err b j => .err b j
  | .ok t j _ => .ok ⟨k, s, t⟩ j 0
def decR (S : Toks) (k : Int) (i : Nat) : Res De :=
  if k = 1 \/ k = 2 then (if S.great i = false then .err 2 i else .ok ⟨k, S.T i, noT⟩ (i + 1) 0)
  else if k = 3 then (if S.great i = false then .err 2 i else if S.sign (i + 1) [61] = false then .err 2 (i + 1) else typD 3 (S.T i) (atR S (i + 2)))
  else (if S.small i = false then .err 2 i else if S.sign (i + 1) [58] = false then .err 2 (i + 1) else typD 4 (S.T i) (atR S (i + 2)))
def declAt (S : Toks) (i : Nat) : Int := if i < S.n then declK (S.T i).data.toList else 0
def oneD (S : Toks) (i n : Nat) : Res De :=
  if declAt S i = 0 then .err 2 i
  else if 60 <= n then .err 3 i
  else decR S (declAt S i) (i + 1)
def decsR (S : Toks) : Nat -> Nat -> List De -> Res (List De)
  | 0, _, _ => .err 99 0
  | f + 1, i, l =>
    if S.n <= i then .ok l i 0
    else match oneD S i l.length with
      | .err b j => .err b j
      | .ok x j _ => decsR S f j (l ++ [x])
def restM (S : Toks) (s : ByteArray) : Res (List Im) -> Res Mo
  | .err b j => .err b j
  | .ok l j _ => match decsR S 61 j [] with
    | .err b i => .err b i
    | .ok ds i _ => .ok ⟨s, l, ds⟩ i 0
theorem atR_le {S : Toks} {i j c : Nat} {t : Ty} (h : atR S i = .ok t j c) : i < j := by
  have := (steps S (2 * S.n + 3)).1 1 i 0 (by omega)
  unfold atR at h
  rw [h] at this;exact this
theorem key_at {S : Toks} {b i : Nat} (l : List UInt8) : ((kAt S b i == 1) && ((tAt S b i).data.toList == l)) = (decide (b = 0) && keyS S i l) := by
  unfold kAt tAt keyS
  by_cases h : b = 0 /\ i < S.n
  · rw [if_pos h, if_pos h]; simp [h.1, h.2]
  · rw [if_neg h]
    by_cases hb : b = 0
    · have : ¬ i < S.n := fun e => h ⟨hb, e⟩
      simp [hb, this]
    · simp [hb]
theorem catKey_any {W : World} {q : Nat} {A : Option Addr} {S : Toks} {cn i b : Nat} {w : World} (hc : CdCtx W q A S w) (h : CSt q A S.n cn i b w) (s : ByteArray) :
    Calls Tryz.prog 70 #[.pointer (some ⟨q, 0, none⟩), .string s] w fun e w' => e = .returned (.bool (decide (b = 0) && keyS S i s.data.toList)) /\ Below w.heap.size w w' := by
  have ST := stands_any hc h 1 s;unfold standB at ST
  rw [key_at] at ST;have HST := zH ST;clear h hc ST;go_enter Tryz.func70, Tryz.ntmps70
  go_wp2_with fail
  refine HST.out.mono ?_; rintro e w1 ⟨rfl, hb1⟩
  go_wp2_with fail
  go_ret;exact ⟨rfl, hb1⟩
theorem ckey_any {W : World} {q : Nat} {A : Option Addr} {S : Toks} {cn i b : Nat} {w : World} (hc : CdCtx W q A S w) (h : CSt q A S.n cn i b w) (s : ByteArray) :
    Calls Tryz.prog 119 #[.pointer (some ⟨q, 0, none⟩), .string s] w fun e w' => e = .returned (.tuple #[]) /\ CSt q A S.n cn (psI b (keyS S i s.data.toList) i) (psB b (keyS S i s.data.toList)) w' /\ Kp q w w' := by
  have hbig := hc.big;have AK := zH (catKey_any hc h s);have HH := zH h;clear hc h;go_enter Tryz.func119, Tryz.ntmps119
  go_wp2_with fail
  refine AK.out.mono ?_; rintro e w1 ⟨rfl, hb1⟩
  have h1 := HH.out.below hb1;have MU := zH (must_any h1 (decide (b = 0) && keyS S i s.data.toList) 2 (by decide));have HK1 := zH (Kp.of_below (r := q) hb1)
  have RB : Hid (mustB b (decide (b = 0) && keyS S i s.data.toList) 2 = psB b (keyS S i s.data.toList)) := zH (by
    unfold mustB psB
    by_cases hb : b = 0
    · subst hb
      cases keyS S i s.data.toList <;> rfl
    · rw [if_neg (fun x => hb x.1), if_neg (fun x => hb x.1)])
  clear h1 hb1 AK;go_wp2_with fail
  refine MU.out.mono ?_; rintro e w2 ⟨rfl, h2, k2⟩
  rw [RB.out] at h2
  have hlt : psB b (keyS S i s.data.toList) = 0 -> i < S.n := fun e => by
    have hb := psB_0 e;subst hb;cases hk : keyS S i s.data.toList with
    | true => exact key_lt hk
    | false => rw [hk] at e; cases e
  have PS := zH (cpass_any h2 hlt hbig)
  have RI : Hid (upI (psB b (keyS S i s.data.toList)) i = psI b (keyS S i s.data.toList) i) := zH (by
    by_cases hb : b = 0
    · subst hb
      cases keyS S i s.data.toList <;> rfl
    · rw [psB_bad _ hb, psI_bad _ _ hb, upI_ne _ hb])
  have HK2 := zH (HK1.out.trans k2);clear h2 k2 MU hlt;go_wp2_with fail
  refine PS.out.mono ?_; rintro e w3 ⟨rfl, h3, k3⟩
  rw [RI.out] at h3;go_wp2_with fail
  go_end0
  exact ⟨rfl, h3, HK2.out.trans k3⟩
section
variable {P : Program} {ops : Array Oper} {Q : Exit -> Act -> World -> Prop} {md : Region.Mode} {S : World -> Prop} {off : Nat -> Bool}
theorem AnyX.go2 (i j : Nat) {o p : Oper} {k : Nat} {listed : Array Bool} {a : Act} {w : World} (hr : Region.ready md ops listed = [i, j]) (ho : ops[i]? = some o) (hg : o.guard = none) (hp : ops[j]? = some p) (hgp : p.guard = none)
  (h : ∀ K : Act -> World -> Prop, Hid (∀ a' w', (off i = false -> S w -> S w') -> AnyX P md ops Q S off k (listed.setIfInBounds i true) a' w' -> K a' w') -> Oper.wp P o a w K Q)
  (h2 : ∀ K : Act -> World -> Prop, Hid (∀ a' w', (off j = false -> S w -> S w') -> AnyX P md ops Q S off k (listed.setIfInBounds j true) a' w' -> K a' w') -> Oper.wp P p a w K Q) : AnyX P md ops Q S off (k + 1) listed a w :=
 ⟨fun h0 => (by rw [hr] at h0; cases h0), fun q hq => by
  rw [hr] at hq;rcases List.mem_cons.1 hq with rfl | hq
  ·refine wpOp_step ho fun K hK => ?_
   rw [if_pos (by simp [Region.wanted, hg])];exact h K (zH fun a w hS hW => hK a w ⟨hS, hW⟩)
  ·obtain rfl := List.mem_singleton.1 hq
   refine wpOp_step hp fun K hK => ?_
   rw [if_pos (by simp [Region.wanted, hgp])];exact h2 K (zH fun a w hS hW => hK a w ⟨hS, hW⟩)⟩
end
def cutR {α : Type} : Res α -> Res α
 | .ok x i _ => .ok x i 0
 | .err b i => .err b i
theorem cell_alloc {w : World} {o : Obj} {a : Addr} {v : Value} (h : w.cell? a = some v) : (w.alloc o).cell? a = some v := (World.cell?_alloc_lt _ _ _ (World.block_lt_of_cell? w _ h)).trans h
def RdC (S : Toks) (i : Nat) (wb : World) (s6 s7 s8 : Value) (wx : World) : Prop :=
  Below wb.heap.size wb wx /\ ∃ g6 : Nat, s6 = .pointer (some ⟨g6, 0, none⟩) /\ wb.heap.size <= g6 /\
    ((∃ (l : List Value) (t : Ty) (j c : Nat), atR S i = .ok t j c /\ s7 = .int .i64 j /\ s8 = .nilIface /\ wx.heap[g6]? = some (.cells l.toArray 48 (0, 0)) /\ TyAt (strike (fun b => b < wb.heap.size \/ b = g6) wx) l t) \/
     (∃ b j g : Nat, atR S i = .err b j /\ b ≠ 0 /\ s7 = .int .i64 0 /\ s8 = .iface 70 (.pointer (some ⟨g, 0, none⟩)) /\ SpAt g j b wx))
theorem RdC.afterOk {S : Toks} {i : Nat} {wb w2 w4 : World} {l : List Value} {t : Ty} {j c g6 : Nat} (hb : Below wb.heap.size wb w2) (hg : wb.heap.size <= g6) (hok : atR S i = .ok t j c) (hT : TyAt (strike (fun b => b < wb.heap.size \/ b = g6) w2) l t)
  (hz : w2.heap.size <= w4.heap.size) (hrow : w4.heap[g6]? = some (.cells l.toArray 48 (0, 0))) (ho : ∀ b, b < w2.heap.size -> b ≠ g6 -> w4.heap[b]? = w2.heap[b]?) (h1 : w4.os = w2.os) (h2 : w4.tape = w2.tape) (h3 : w4.output = w2.output) :
  RdC S i wb (.pointer (some ⟨g6, 0, none⟩)) (.int .i64 j) .nilIface w4 :=
 ⟨⟨h1.trans hb.os, h2.trans hb.tape, h3.trans hb.output, Nat.le_trans hb.size hz, fun k hk => (ho k (Nat.lt_of_lt_of_le hk hb.size) (by omega)).trans (hb.block k hk)⟩, g6, rfl, hg, .inl ⟨l, t, j, c, hok, rfl, rfl, hrow, hT.move hz fun b hlt hS => ⟨hS, ho b hlt (fun e => hS (.inr e))⟩⟩⟩
theorem RdC.afterErr {S : Toks} {i : Nat} {wb w2 w4 : World} {b j g g6 : Nat} (hb : Below wb.heap.size wb w2) (hg : wb.heap.size <= g6) (herr : atR S i = .err b j) (hb0 : b ≠ 0) (hsp : SpAt g j b w2)
  (hz : w2.heap.size <= w4.heap.size) (hgg : g ≠ g6) (ho : ∀ b, b < w2.heap.size -> b ≠ g6 -> w4.heap[b]? = w2.heap[b]?) (h1 : w4.os = w2.os) (h2 : w4.tape = w2.tape) (h3 : w4.output = w2.output) :
  RdC S i wb (.pointer (some ⟨g6, 0, none⟩)) (.int .i64 0) (.iface 70 (.pointer (some ⟨g, 0, none⟩))) w4 :=
 ⟨⟨h1.trans hb.os, h2.trans hb.tape, h3.trans hb.output, Nat.le_trans hb.size hz, fun k hk => (ho k (Nat.lt_of_lt_of_le hk hb.size) (by omega)).trans (hb.block k hk)⟩, g6, rfl, hg, .inr ⟨b, j, g, herr, hb0, rfl, rfl, (ho g (Array.getElem?_eq_some_iff.1 hsp).1 hgg).trans hsp⟩⟩
def TrOut (w : World) (q : Nat) (A : Option Addr) (n cn : Nat) (R : Res Ty) (e : Ending) (w' : World) : Prop :=
 ∃ (l : List Value) (t : Ty) (i' b' : Nat), e = .returned (.agg l.toArray) /\ TyAt (strike (· < w.heap.size) w') l t /\ Kp q w w' /\ CSt q A n cn i' b' w' /\ badR b' i' (.ok t i' 0) = R
theorem ctype_any {W : World} {q : Nat} {A : Option Addr} {S : Toks} {cn i b : Nat} {w : World} (hc : CdCtx W q A S w) (h : CSt q A S.n cn i b w) (he : CEnv W) (hi : b = 0 -> i <= S.n) :
  Calls Tryz.prog 78 #[.pointer (some ⟨q, 0, none⟩), .func (.func 79) #[] #[]] w (TrOut w q A S.n cn (badR b i (cutR (atR S i)))) := by
 have hq := h.lt
 obtain ⟨w0, hw0⟩ : ∃ w0, w0 = w.alloc (.cells #[.int .i64 0, .string ⟨#[]⟩, .int .i64 0, .string ⟨#[]⟩, .string ⟨#[]⟩, .slice none 0 0, .slice none 0 0] 48) := ⟨_, rfl⟩
 have B0 : Below w.heap.size w w0 := by rw [hw0]; exact below_new (Below.refl _ _) _
 have s0 : w0.heap.size = w.heap.size + 1 := by rw [hw0]; simp
 obtain ⟨w1, hw1⟩ : ∃ w1, w1 = w0.alloc (.cells #[.int .i64 0, .string ⟨#[]⟩, .int .i64 0, .string ⟨#[]⟩, .string ⟨#[]⟩, .slice none 0 0, .slice none 0 0] 48) := ⟨_, rfl⟩
 have B1 : Below w0.heap.size w0 w1 := by rw [hw1]; exact below_new (Below.refl _ _) _
 have s1 : w1.heap.size = w0.heap.size + 1 := by rw [hw1]; simp
 have X0 : Bx w.heap.size w1 := (B1.block _ (by omega)).trans (by rw [hw0]; exact heap_alloc_new w _)
 have X1 : Bx w0.heap.size w1 := by rw [hw1]; exact heap_alloc_new w0 _
 have B01 := below_over B0 B1
 have h1 := h.below B01
 have HB01 := zH B01
 have HX0 := zH X0
 have HX1 := zH X1
 have HW0 := zH hw0
 have HW1 := zH hw1
 have SS := zH (⟨s0, s1⟩ : w0.heap.size = w.heap.size + 1 /\ w1.heap.size = w0.heap.size + 1)
 have HH1 := zH h1
 unfold Bx at X1
 obtain ⟨z0, z1, z2, z3, z4, z5, z6⟩ := cq7 X1
 simp at z0 z1 z2 z3 z4 z5 z6
 have HZ := zH (⟨z0, z1, z2, z3, z4, z5, z6⟩ : _ /\ _ /\ _ /\ _ /\ _ /\ _ /\ _)
 by_cases hb : b = 0
 rotate_left
 ·obtain ⟨x, g, G, -⟩ := h1.bad hb
  have c2 := cZ G 2;simp at c2
  have SEAL : Hid (TrOut w q A S.n cn (badR b i (cutR (atR S i))) (.returned (.agg #[.int .i64 0, .string ⟨#[]⟩, .int .i64 0, .string ⟨#[]⟩, .string ⟨#[]⟩, .slice none 0 0, .slice none 0 0])) (w1.setRow w.heap.size #[.int .i64 0, .string ⟨#[]⟩, .int .i64 0, .string ⟨#[]⟩, .string ⟨#[]⟩, .slice none 0 0, .slice none 0 0])) := zH
   ⟨[.int .i64 0, .string ⟨#[]⟩, .int .i64 0, .string ⟨#[]⟩, .string ⟨#[]⟩, .slice none 0 0, .slice none 0 0], noT, i, b, rfl, (TyAt.zero _), ⟨B01.os, B01.tape, B01.output, by have := B01.size; simpa using this, fun j hj _ => (setRow_other w1 w.heap.size j _ (by omega)).trans (B01.block j hj)⟩,
    h1.keep (setRow_other w1 w.heap.size q _ (by omega)) (fun g vs fr hg => setRow_other w1 w.heap.size g _ (two_types hg X0 (by decide))), by rw [badR_ne _ _ hb, badR_ne _ _ hb]⟩
  unfold Bx at X0
  clear h h1 hc he hi hw0 hw1 B0 B1 B01 X1 s0 s1 G;go_enter Tryz.func78, Tryz.ntmps78
  go_upto_region 1 with fail
  rw [<- HW0.out];go_upto_region 2 with fail
  rw [<- HW1.out];go_upto_region 3 with fail
  go_wp2_with (first | ((with_reducible refine wpList_putRow 48 (w.heap.size) #[.int .i64 0, .string ⟨#[]⟩, .int .i64 0, .string ⟨#[]⟩, .string ⟨#[]⟩, .slice none 0 0, .slice none 0 0] _ _ X0 ?_ ?_ ?_ ?_ ?_ ?_); exact tySize; rfl; exact tyOne; iterate 2 (focus (first | (go_simp; done) | rfl))))
  exact ret_agg1 (fn := Tryz.f78) (vs := [.int .i64 0, .string ⟨#[]⟩, .int .i64 0, .string ⟨#[]⟩, .string ⟨#[]⟩, .slice none 0 0, .slice none 0 0]) (b := w.heap.size) rfl rfl Tryz.underlying48 (by kernel_rfl) (cell7 (setRow_heap w1 w.heap.size _ _ _ _ HX0.out)) rfl SEAL.out
 subst hb
 have G1 := h1.good
 obtain ⟨a0, a1, a2⟩ := cq3 G1
 simp at a0 a1 a2
 have CA : Hid (∀ wz, Below w.heap.size w wz -> Calls Tryz.prog 79 #[.slice A S.n cn, .int .i64 i] wz (AtOut wz S i)) := zH (fun wz hb => cat_in (cn := cn) (hc.toks.below (hc.below.trans (hb.mono hc.below.size))) (he.on (hc.below.trans (hb.mono hc.below.size))) hc.big hc.small i (hi rfl))
 have G1' := zH G1
 clear h h1 hc he hi hw0 hw1 B0 B1 B01 X0 X1 s0 s1 G1
 go_enter Tryz.func78, Tryz.ntmps78
 go_upto_region 1 with fail
 rw [<- HW0.out]
 go_upto_region 2 with fail
 rw [<- HW1.out]
 go_upto_region 4 with fail
 go_cut [6, 7, 8] (fun s6 s7 s8 wx => RdC S i w1 s6 s7 s8 wx)
 case first =>
  have hH0 : w1.drew.cell? ⟨q, 0, none⟩ = some (.slice A S.n cn) /\ w1.drew.cell? ⟨q, 1, none⟩ = some (.int .i64 i) := ⟨a0, a1⟩;have BD : Below w1.heap.size w1 w1.drew := Below.drew (Below.refl _ _);clear HX0 HX1 HW0 HW1 HH1 HZ G1' z0 z1 z2 z3 z4 z5 z6 a0 a1 a2;refine AnyX.start (fun wx => wx.cell? ⟨q, 0, none⟩ = some (.slice A S.n cn) /\ wx.cell? ⟨q, 1, none⟩ = some (.int .i64 i)) (fun k => [9, 15].contains k) (by kernel_rfl) ?_;refine AnyX.mv (i := 0) (v := ?_) rfl (fun _ _ _ h => h) (Or.inl ⟨by rfl, ?_⟩) ?_;rotate_left
  ·(intro wS _; go_simp; try with_reducible rfl)
  simp only [getElem_toArray, getElem_cons_succ, getElem_cons_zero];simp only [Act.put, setIfInBounds_toArray, set_cons_zero, set_cons_succ];refine AnyX.mv (i := 1) (v := ?_) rfl (fun _ _ _ h => h) (Or.inl ⟨by rfl, ?_⟩) ?_;rotate_left
  ·(intro wS _; go_simp; try with_reducible rfl)
  simp only [getElem_toArray, getElem_cons_succ, getElem_cons_zero];simp only [Act.put, setIfInBounds_toArray, set_cons_zero, set_cons_succ];refine AnyX.mv (i := 2) (v := ?_) rfl (fun _ _ _ h => h) (Or.inl ⟨by rfl, ?_⟩) ?_;rotate_left
  ·(intro wS _; go_simp; try with_reducible rfl)
  simp only [getElem_toArray, getElem_cons_succ, getElem_cons_zero];simp only [Act.put, setIfInBounds_toArray, set_cons_zero, set_cons_succ];refine AnyX.mv (i := 3) (v := ?_) rfl (fun _ _ _ h => h) (Or.inl ⟨by rfl, ?_⟩) ?_;rotate_left
  ·(intro wS _; go_simp; try with_reducible rfl)
  simp only [getElem_toArray, getElem_cons_succ, getElem_cons_zero];simp only [Act.put, setIfInBounds_toArray, set_cons_zero, set_cons_succ];refine AnyX.tk (i := 4) (v := ?_) rfl (fun _ _ _ h => h) hH0 (Or.inl ⟨by rfl, ?_⟩) ?_;rotate_left
  ·(intro wS hS; (try obtain ⟨hS0, hS1⟩ := hS); go_simp; try with_reducible rfl)
  simp only [getElem_toArray, getElem_cons_succ, getElem_cons_zero];simp only [Act.put, setIfInBounds_toArray, set_cons_zero, set_cons_succ];refine AnyX.mv (i := 5) (v := ?_) rfl (fun _ _ _ h => h) (Or.inl ⟨by rfl, ?_⟩) ?_;rotate_left
  ·(intro wS _; go_simp; try with_reducible rfl)
  simp only [getElem_toArray, getElem_cons_succ, getElem_cons_zero];simp only [Act.put, setIfInBounds_toArray, set_cons_zero, set_cons_succ];refine AnyX.mv (i := 6) (v := ?_) rfl (fun _ _ _ h => h) (Or.inl ⟨by rfl, ?_⟩) ?_;rotate_left
  ·(intro wS _; go_simp; try with_reducible rfl)
  simp only [getElem_toArray, getElem_cons_succ, getElem_cons_zero];simp only [Act.put, setIfInBounds_toArray, set_cons_zero, set_cons_succ];refine AnyX.mv (i := 7) (v := ?_) rfl (fun _ _ _ h => h) (Or.inl ⟨by rfl, ?_⟩) ?_;rotate_left
  ·(intro wS _; go_simp; try with_reducible rfl)
  simp only [getElem_toArray, getElem_cons_succ, getElem_cons_zero];simp only [Act.put, setIfInBounds_toArray, set_cons_zero, set_cons_succ];refine AnyX.tk (i := 8) (v := ?_) rfl (fun _ _ _ h => h) hH0 (Or.inl ⟨by rfl, ?_⟩) ?_;rotate_left
  ·(intro wS hS; (try obtain ⟨hS0, hS1⟩ := hS); go_simp; try with_reducible rfl)
  simp only [getElem_toArray, getElem_cons_succ, getElem_cons_zero];simp only [Act.put, setIfInBounds_toArray, set_cons_zero, set_cons_succ];refine AnyX.go2 9 14 (by kernel_rfl) rfl rfl rfl rfl (fun K hK => ?_) (fun K hK => ?_)
  ·simp only [getElem_toArray, getElem_cons_succ, getElem_cons_zero]
   go_simp
   refine (CA.out _ (below_over HB01.out BD)).mono ?_;rintro e w2 ⟨hb2, ⟨l, t, j, c, hok, rfl, hT⟩ | ⟨b, j, g, herr, hb0, rfl, hsp⟩⟩
   ·obtain ⟨An, cA, As, cS, rfl, -⟩ := hT.parts
    have hs2 := hb2.size;have hsd : w1.drew.heap.size = w1.heap.size := rfl;simp only [];refine hK.out _ _ (fun hoff _ => absurd hoff (by decide)) ?_;clear hK;(try simp only [Act.put, setIfInBounds_toArray, set_cons_zero, set_cons_succ]);refine AnyX.mv (i := 10) (v := ?_) rfl (fun _ _ _ h => h) (Or.inl ⟨by rfl, ?_⟩) ?_;rotate_left
    ·(intro wS _; go_simp; try with_reducible rfl)
    simp only [getElem_toArray, getElem_cons_succ, getElem_cons_zero];simp only [Act.put, setIfInBounds_toArray, set_cons_zero, set_cons_succ];refine AnyX.mv (i := 11) (v := ?_) rfl (fun _ _ _ h => h) (Or.inl ⟨by rfl, ?_⟩) ?_;rotate_left
    ·(intro wS _; go_simp; try with_reducible rfl)
    simp only [getElem_toArray, getElem_cons_succ, getElem_cons_zero];simp only [Act.put, setIfInBounds_toArray, set_cons_zero, set_cons_succ];refine AnyX.mv (i := 12) (v := ?_) rfl (fun _ _ _ h => h) (Or.inl ⟨by rfl, ?_⟩) ?_;rotate_left
    ·(intro wS _; go_simp; try with_reducible rfl)
    simp only [getElem_toArray, getElem_cons_succ, getElem_cons_zero];simp only [Act.put, setIfInBounds_toArray, set_cons_zero, set_cons_succ];refine AnyX.mv (i := 13) (v := ?_) rfl (fun _ _ _ h => h) (Or.inl ⟨by rfl, ?_⟩) ?_;rotate_left
    ·(intro wS _; go_simp; try with_reducible rfl)
    simp only [getElem_toArray, getElem_cons_succ, getElem_cons_zero];simp only [Act.put, setIfInBounds_toArray, set_cons_zero, set_cons_succ];refine AnyX.go 14 (by kernel_rfl) rfl rfl (fun K hK => ?_);simp only [getElem_toArray, getElem_cons_succ, getElem_cons_zero];go_simp
    refine hK.out _ _ (fun _ hS => ⟨cell_alloc hS.1, cell_alloc hS.2⟩) ?_;clear hK;(try simp only [Act.put, setIfInBounds_toArray, set_cons_zero, set_cons_succ]);refine AnyX.go 15 (by kernel_rfl) rfl rfl (fun K hK => ?_);simp only [getElem_toArray, getElem_cons_succ, getElem_cons_zero];refine wp_store_row 48 (.tmp 6) (.tmp 26) rfl w2.heap.size #[.int .i64 t.kind, .string t.pkg, .int .i64 t.major, .string t.mod, .string t.name, .slice An t.names.length cA, .slice As t.subs.length cS] rfl rfl _ _ (heap_alloc_new w2 _) tySize rfl tyOne ?_;refine hK.out _ _ (fun hoff _ => absurd hoff (by decide)) ?_;clear hK;(try simp only [Act.put, setIfInBounds_toArray, set_cons_zero, set_cons_succ]);refine AnyX.mv (i := 16) (v := ?_) rfl (fun _ _ _ h => h) (Or.inl ⟨by rfl, ?_⟩) ?_;rotate_left
    ·(intro wS _; go_simp; try with_reducible rfl)
    simp only [getElem_toArray, getElem_cons_succ, getElem_cons_zero];simp only [Act.put, setIfInBounds_toArray, set_cons_zero, set_cons_succ];refine AnyX.mv (i := 17) (v := ?_) rfl (fun _ _ _ h => h) (Or.inl ⟨by rfl, ?_⟩) ?_;rotate_left
    ·(intro wS _; go_simp; try with_reducible rfl)
    simp only [getElem_toArray, getElem_cons_succ, getElem_cons_zero];simp only [Act.put, setIfInBounds_toArray, set_cons_zero, set_cons_succ];refine AnyX.done (by kernel_rfl) ?_ _;go_wp2_with fail
    go_meet
    exact RdC.afterOk (below_over BD hb2) (by omega) hok (hT.move (Nat.le_refl _) fun b hlt hS => ⟨by rintro (e | e); exact hS e; omega, rfl⟩) (by simp) (setRow_heap _ _ _ _ _ _ (heap_alloc_new w2 _)) (fun b hb _ => (setRow_other _ _ _ _ (by omega)).trans (Lib.alloc_old w2 _ b hb)) rfl rfl rfl
   ·have hs2 := hb2.size
    have hsd : w1.drew.heap.size = w1.heap.size := rfl;have hgl : g < w2.heap.size := (Array.getElem?_eq_some_iff.1 hsp).1;simp only [];refine hK.out _ _ (fun hoff _ => absurd hoff (by decide)) ?_;clear hK;(try simp only [Act.put, setIfInBounds_toArray, set_cons_zero, set_cons_succ]);refine AnyX.mv (i := 10) (v := ?_) rfl (fun _ _ _ h => h) (Or.inl ⟨by rfl, ?_⟩) ?_;rotate_left
    ·(intro wS _; go_simp; try with_reducible rfl)
    simp only [getElem_toArray, getElem_cons_succ, getElem_cons_zero];simp only [Act.put, setIfInBounds_toArray, set_cons_zero, set_cons_succ];refine AnyX.mv (i := 11) (v := ?_) rfl (fun _ _ _ h => h) (Or.inl ⟨by rfl, ?_⟩) ?_;rotate_left
    ·(intro wS _; go_simp; try with_reducible rfl)
    simp only [getElem_toArray, getElem_cons_succ, getElem_cons_zero];simp only [Act.put, setIfInBounds_toArray, set_cons_zero, set_cons_succ];refine AnyX.mv (i := 12) (v := ?_) rfl (fun _ _ _ h => h) (Or.inl ⟨by rfl, ?_⟩) ?_;rotate_left
    ·(intro wS _; go_simp; try with_reducible rfl)
    simp only [getElem_toArray, getElem_cons_succ, getElem_cons_zero];simp only [Act.put, setIfInBounds_toArray, set_cons_zero, set_cons_succ];refine AnyX.mv (i := 13) (v := ?_) rfl (fun _ _ _ h => h) (Or.inl ⟨by rfl, ?_⟩) ?_;rotate_left
    ·(intro wS _; go_simp; try with_reducible rfl)
    simp only [getElem_toArray, getElem_cons_succ, getElem_cons_zero];simp only [Act.put, setIfInBounds_toArray, set_cons_zero, set_cons_succ];refine AnyX.go 14 (by kernel_rfl) rfl rfl (fun K hK => ?_);simp only [getElem_toArray, getElem_cons_succ, getElem_cons_zero];go_simp
    refine hK.out _ _ (fun _ hS => ⟨cell_alloc hS.1, cell_alloc hS.2⟩) ?_;clear hK;(try simp only [Act.put, setIfInBounds_toArray, set_cons_zero, set_cons_succ]);refine AnyX.go 15 (by kernel_rfl) rfl rfl (fun K hK => ?_);simp only [getElem_toArray, getElem_cons_succ, getElem_cons_zero];refine wp_store_row 48 (.tmp 6) (.tmp 26) rfl w2.heap.size #[.int .i64 0, .string ⟨#[]⟩, .int .i64 0, .string ⟨#[]⟩, .string ⟨#[]⟩, .slice none 0 0, .slice none 0 0] rfl rfl _ _ (heap_alloc_new w2 _) tySize rfl tyOne ?_;refine hK.out _ _ (fun hoff _ => absurd hoff (by decide)) ?_;clear hK;(try simp only [Act.put, setIfInBounds_toArray, set_cons_zero, set_cons_succ]);refine AnyX.mv (i := 16) (v := ?_) rfl (fun _ _ _ h => h) (Or.inl ⟨by rfl, ?_⟩) ?_;rotate_left
    ·(intro wS _; go_simp; try with_reducible rfl)
    simp only [getElem_toArray, getElem_cons_succ, getElem_cons_zero];simp only [Act.put, setIfInBounds_toArray, set_cons_zero, set_cons_succ];refine AnyX.mv (i := 17) (v := ?_) rfl (fun _ _ _ h => h) (Or.inl ⟨by rfl, ?_⟩) ?_;rotate_left
    ·(intro wS _; go_simp; try with_reducible rfl)
    simp only [getElem_toArray, getElem_cons_succ, getElem_cons_zero];simp only [Act.put, setIfInBounds_toArray, set_cons_zero, set_cons_succ];refine AnyX.done (by kernel_rfl) ?_ _;go_wp2_with fail
    go_meet
    exact RdC.afterErr (below_over BD hb2) (by omega) herr hb0 hsp (by simp) (by omega) (fun b hb _ => (setRow_other _ _ _ _ (by omega)).trans (Lib.alloc_old w2 _ b hb)) rfl rfl rfl
  ·simp only [getElem_toArray, getElem_cons_succ, getElem_cons_zero]
   go_simp
   refine hK.out _ _ (fun _ hS => ⟨cell_alloc hS.1, cell_alloc hS.2⟩) ?_;clear hK;(try simp only [Act.put, setIfInBounds_toArray, set_cons_zero, set_cons_succ]);obtain ⟨wa, hwa⟩ : ∃ wa, wa = (w1.alloc (.cells #[.int .i64 0, .string ⟨#[]⟩, .int .i64 0, .string ⟨#[]⟩, .string ⟨#[]⟩, .slice none 0 0, .slice none 0 0] 48)).drew := ⟨_, rfl⟩;have Ba : Below w1.heap.size w1 wa := by rw [hwa]; exact Below.drew (below_new (Below.refl _ _) _)
   have Xa : wa.heap[w1.heap.size]? = some (.cells #[.int .i64 0, .string ⟨#[]⟩, .int .i64 0, .string ⟨#[]⟩, .string ⟨#[]⟩, .slice none 0 0, .slice none 0 0] 48 (0, 0)) := by rw [hwa]; exact heap_alloc_new w1 _
   have sa : wa.heap.size = w1.heap.size + 1 := by rw [hwa]; simp
   rw [<- hwa];clear hwa;refine AnyX.go 9 (by kernel_rfl) rfl rfl (fun K hK => ?_);simp only [getElem_toArray, getElem_cons_succ, getElem_cons_zero];go_simp
   refine (CA.out _ (below_over HB01.out Ba)).mono ?_;rintro e w2 ⟨hb2, ⟨l, t, j, c, hok, rfl, hT⟩ | ⟨b, j, g, herr, hb0, rfl, hsp⟩⟩
   ·obtain ⟨An, cA, As, cS, rfl, -⟩ := hT.parts
    have hs2 := hb2.size;have X2 := (hb2.block _ (by omega)).trans Xa;simp only [];refine hK.out _ _ (fun hoff _ => absurd hoff (by decide)) ?_;clear hK;(try simp only [Act.put, setIfInBounds_toArray, set_cons_zero, set_cons_succ]);refine AnyX.mv (i := 10) (v := ?_) rfl (fun _ _ _ h => h) (Or.inl ⟨by rfl, ?_⟩) ?_;rotate_left
    ·(intro wS _; go_simp; try with_reducible rfl)
    simp only [getElem_toArray, getElem_cons_succ, getElem_cons_zero];simp only [Act.put, setIfInBounds_toArray, set_cons_zero, set_cons_succ];refine AnyX.mv (i := 11) (v := ?_) rfl (fun _ _ _ h => h) (Or.inl ⟨by rfl, ?_⟩) ?_;rotate_left
    ·(intro wS _; go_simp; try with_reducible rfl)
    simp only [getElem_toArray, getElem_cons_succ, getElem_cons_zero];simp only [Act.put, setIfInBounds_toArray, set_cons_zero, set_cons_succ];refine AnyX.mv (i := 12) (v := ?_) rfl (fun _ _ _ h => h) (Or.inl ⟨by rfl, ?_⟩) ?_;rotate_left
    ·(intro wS _; go_simp; try with_reducible rfl)
    simp only [getElem_toArray, getElem_cons_succ, getElem_cons_zero];simp only [Act.put, setIfInBounds_toArray, set_cons_zero, set_cons_succ];refine AnyX.mv (i := 13) (v := ?_) rfl (fun _ _ _ h => h) (Or.inl ⟨by rfl, ?_⟩) ?_;rotate_left
    ·(intro wS _; go_simp; try with_reducible rfl)
    simp only [getElem_toArray, getElem_cons_succ, getElem_cons_zero];simp only [Act.put, setIfInBounds_toArray, set_cons_zero, set_cons_succ];refine AnyX.go 15 (by kernel_rfl) rfl rfl (fun K hK => ?_);simp only [getElem_toArray, getElem_cons_succ, getElem_cons_zero];refine wp_store_row 48 (.tmp 6) (.tmp 26) rfl w1.heap.size #[.int .i64 t.kind, .string t.pkg, .int .i64 t.major, .string t.mod, .string t.name, .slice An t.names.length cA, .slice As t.subs.length cS] rfl rfl _ _ X2 tySize rfl tyOne ?_;refine hK.out _ _ (fun hoff _ => absurd hoff (by decide)) ?_;clear hK;(try simp only [Act.put, setIfInBounds_toArray, set_cons_zero, set_cons_succ]);refine AnyX.mv (i := 16) (v := ?_) rfl (fun _ _ _ h => h) (Or.inl ⟨by rfl, ?_⟩) ?_;rotate_left
    ·(intro wS _; go_simp; try with_reducible rfl)
    simp only [getElem_toArray, getElem_cons_succ, getElem_cons_zero];simp only [Act.put, setIfInBounds_toArray, set_cons_zero, set_cons_succ];refine AnyX.mv (i := 17) (v := ?_) rfl (fun _ _ _ h => h) (Or.inl ⟨by rfl, ?_⟩) ?_;rotate_left
    ·(intro wS _; go_simp; try with_reducible rfl)
    simp only [getElem_toArray, getElem_cons_succ, getElem_cons_zero];simp only [Act.put, setIfInBounds_toArray, set_cons_zero, set_cons_succ];refine AnyX.done (by kernel_rfl) ?_ _;go_wp2_with fail
    go_meet
    exact RdC.afterOk (below_over Ba hb2) (Nat.le_refl _) hok (hT.move (Nat.le_refl _) fun b hlt hS => ⟨by rintro (e | e) <;> omega, rfl⟩) (by simp) (setRow_heap _ _ _ _ _ _ X2) (fun b hb hne => setRow_other _ _ _ _ hne) rfl rfl rfl
   ·have hs2 := hb2.size
    have X2 := (hb2.block _ (by omega)).trans Xa;have hgg : g ≠ w1.heap.size := two_types hsp X2 (by decide);simp only [];refine hK.out _ _ (fun hoff _ => absurd hoff (by decide)) ?_;clear hK;(try simp only [Act.put, setIfInBounds_toArray, set_cons_zero, set_cons_succ]);refine AnyX.mv (i := 10) (v := ?_) rfl (fun _ _ _ h => h) (Or.inl ⟨by rfl, ?_⟩) ?_;rotate_left
    ·(intro wS _; go_simp; try with_reducible rfl)
    simp only [getElem_toArray, getElem_cons_succ, getElem_cons_zero];simp only [Act.put, setIfInBounds_toArray, set_cons_zero, set_cons_succ];refine AnyX.mv (i := 11) (v := ?_) rfl (fun _ _ _ h => h) (Or.inl ⟨by rfl, ?_⟩) ?_;rotate_left
    ·(intro wS _; go_simp; try with_reducible rfl)
    simp only [getElem_toArray, getElem_cons_succ, getElem_cons_zero];simp only [Act.put, setIfInBounds_toArray, set_cons_zero, set_cons_succ];refine AnyX.mv (i := 12) (v := ?_) rfl (fun _ _ _ h => h) (Or.inl ⟨by rfl, ?_⟩) ?_;rotate_left
    ·(intro wS _; go_simp; try with_reducible rfl)
    simp only [getElem_toArray, getElem_cons_succ, getElem_cons_zero];simp only [Act.put, setIfInBounds_toArray, set_cons_zero, set_cons_succ];refine AnyX.mv (i := 13) (v := ?_) rfl (fun _ _ _ h => h) (Or.inl ⟨by rfl, ?_⟩) ?_;rotate_left
    ·(intro wS _; go_simp; try with_reducible rfl)
    simp only [getElem_toArray, getElem_cons_succ, getElem_cons_zero];simp only [Act.put, setIfInBounds_toArray, set_cons_zero, set_cons_succ];refine AnyX.go 15 (by kernel_rfl) rfl rfl (fun K hK => ?_);simp only [getElem_toArray, getElem_cons_succ, getElem_cons_zero];refine wp_store_row 48 (.tmp 6) (.tmp 26) rfl w1.heap.size #[.int .i64 0, .string ⟨#[]⟩, .int .i64 0, .string ⟨#[]⟩, .string ⟨#[]⟩, .slice none 0 0, .slice none 0 0] rfl rfl _ _ X2 tySize rfl tyOne ?_;refine hK.out _ _ (fun hoff _ => absurd hoff (by decide)) ?_;clear hK;(try simp only [Act.put, setIfInBounds_toArray, set_cons_zero, set_cons_succ]);refine AnyX.mv (i := 16) (v := ?_) rfl (fun _ _ _ h => h) (Or.inl ⟨by rfl, ?_⟩) ?_;rotate_left
    ·(intro wS _; go_simp; try with_reducible rfl)
    simp only [getElem_toArray, getElem_cons_succ, getElem_cons_zero];simp only [Act.put, setIfInBounds_toArray, set_cons_zero, set_cons_succ];refine AnyX.mv (i := 17) (v := ?_) rfl (fun _ _ _ h => h) (Or.inl ⟨by rfl, ?_⟩) ?_;rotate_left
    ·(intro wS _; go_simp; try with_reducible rfl)
    simp only [getElem_toArray, getElem_cons_succ, getElem_cons_zero];simp only [Act.put, setIfInBounds_toArray, set_cons_zero, set_cons_succ];refine AnyX.done (by kernel_rfl) ?_ _;go_wp2_with fail
    go_meet
    exact RdC.afterErr (below_over Ba hb2) (Nat.le_refl _) herr hb0 hsp (by simp) hgg (fun b hb hne => setRow_other _ _ _ _ hne) rfl rfl rfl
 case rest =>
  obtain ⟨hbc, g6, rfl, hg6, ⟨l, t, j, c, hok, rfl, rfl, hrow, hT⟩ | ⟨b, j, g, herr, hb0, rfl, rfl, hsp⟩⟩ := hcut
  ·obtain ⟨An, cA, As, cS, rfl, -⟩ := hT.parts
   have ss := SS.out;have hsz := hbc.size;have Gc := (hbc.block q (by omega)).trans G1'.out;have f1 := Lib.frozen_of_heap Gc 1;have m1 := cZ Gc 1;simp at m1;have Xc := (hbc.block w.heap.size (by omega)).trans HX0.out;obtain ⟨w5, hw5⟩ : ∃ w5, w5 = wc.setCell ⟨q, 1, none⟩ (.int .i64 j) := ⟨_, rfl⟩;have s5 : w5.heap.size = wc.heap.size := by rw [hw5]; simp
   have o5 : ∀ k, k ≠ q -> w5.heap[k]? = wc.heap[k]? := fun k hk => by rw [hw5]; exact Below.heap_setCell _ _ _ _ (by show k ≠ q; exact hk)
   have G5 : CGd q A S.n cn j w5 := by
    have h2 := Joins.block_setCell (i := 1) Gc (.int .i64 j);rw [hw5]; simpa [CGd] using h2
   have X5 : Bx w.heap.size w5 := (o5 _ (by omega)).trans Xc;have R5 := (o5 g6 (by omega)).trans hrow;have K5 : Kp q w w5 := by rw [hw5]; exact (Kp.of_below (below_over HB01.out hbc)).put 1 _
   have SEAL : Hid (TrOut w q A S.n cn (badR 0 i (cutR (atR S i))) (.returned (.agg #[.int .i64 t.kind, .string t.pkg, .int .i64 t.major, .string t.mod, .string t.name, .slice An t.names.length cA, .slice As t.subs.length cS])) (w5.setRow w.heap.size #[.int .i64 t.kind, .string t.pkg, .int .i64 t.major, .string t.mod, .string t.name, .slice An t.names.length cA, .slice As t.subs.length cS])) := zH
    ⟨[.int .i64 t.kind, .string t.pkg, .int .i64 t.major, .string t.mod, .string t.name, .slice An t.names.length cA, .slice As t.subs.length cS], t, j, 0, rfl, hT.move (by simp [s5]) fun b hlt hS => ⟨fun e => hS (.inl (by omega)), (setRow_other w5 w.heap.size b _ (fun e => hS (.inl (by omega)))).trans (o5 b (fun e => hS (.inl (by omega))))⟩,
     ⟨K5.os, K5.tape, K5.output, by have := K5.size; simpa using this, fun k hk hne => (setRow_other w5 w.heap.size k _ (by omega)).trans (K5.block k hk hne)⟩,
     .inl ⟨rfl, (setRow_other w5 w.heap.size q _ (by omega)).trans G5⟩, by rw [hok]; rfl⟩
   obtain ⟨x0, x1, x2, x3, x4, x5, x6⟩ := cq7 R5;simp at x0 x1 x2 x3 x4 x5 x6;have HX5 := zH X5;have HW5 := zH hw5;unfold Bx at X5
   clear hbc hrow hT Xc hw5 o5 G5 R5 K5 CA HH1 HX0 HX1 z0 z1 z2 z3 z4 z5 z6 a0 a1 a2 Gc;go_upto_region 9 with fail
   rw [<- HW5.out];go_wp2_with (first | ((with_reducible refine wpList_putRow 48 (w.heap.size) #[.int .i64 t.kind, .string t.pkg, .int .i64 t.major, .string t.mod, .string t.name, .slice An t.names.length cA, .slice As t.subs.length cS] _ _ X5 ?_ ?_ ?_ ?_ ?_ ?_); exact tySize; rfl; exact tyOne; iterate 2 (focus (first | (go_simp; done) | rfl))))
   exact ret_agg1 (fn := Tryz.f78) (vs := [.int .i64 t.kind, .string t.pkg, .int .i64 t.major, .string t.mod, .string t.name, .slice An t.names.length cA, .slice As t.subs.length cS]) (b := w.heap.size) rfl rfl Tryz.underlying48 (by kernel_rfl) (cell7 (setRow_heap w5 w.heap.size _ _ _ _ HX5.out)) rfl SEAL.out
  ·have ss := SS.out
   have hsz := hbc.size;have Gc := (hbc.block q (by omega)).trans G1'.out;have f2 := Lib.frozen_of_heap Gc 2;have m2 := cZ Gc 2;simp at m2;have Xc := (hbc.block w.heap.size (by omega)).trans HX0.out;have Yc := (hbc.block w0.heap.size (by omega)).trans HX1.out;have hgq : g ≠ q := two_types hsp Gc (by decide);have hgx : g ≠ w.heap.size := two_types hsp Xc (by decide);obtain ⟨w5, hw5⟩ : ∃ w5, w5 = wc.setCell ⟨q, 2, none⟩ (.iface 70 (.pointer (some ⟨g, 0, none⟩))) := ⟨_, rfl⟩;have s5 : w5.heap.size = wc.heap.size := by rw [hw5]; simp
   have o5 : ∀ k, k ≠ q -> w5.heap[k]? = wc.heap[k]? := fun k hk => by rw [hw5]; exact Below.heap_setCell _ _ _ _ (by show k ≠ q; exact hk)
   have G5 : CBd q A S.n cn b j w5 := by
    have h2 := Joins.block_setCell (i := 2) Gc (.iface 70 (.pointer (some ⟨g, 0, none⟩)));exact ⟨i, g, by rw [hw5]; simpa using h2, (o5 g hgq).trans hsp⟩
   have X5 : Bx w.heap.size w5 := (o5 _ (by omega)).trans Xc;have Y5 : Bx w0.heap.size w5 := (o5 _ (by omega)).trans Yc;have K5 : Kp q w w5 := by rw [hw5]; exact (Kp.of_below (below_over HB01.out hbc)).put 2 _
   have SEAL : Hid (TrOut w q A S.n cn (badR 0 i (cutR (atR S i))) (.returned (.agg #[.int .i64 0, .string ⟨#[]⟩, .int .i64 0, .string ⟨#[]⟩, .string ⟨#[]⟩, .slice none 0 0, .slice none 0 0])) (w5.setRow w.heap.size #[.int .i64 0, .string ⟨#[]⟩, .int .i64 0, .string ⟨#[]⟩, .string ⟨#[]⟩, .slice none 0 0, .slice none 0 0])) := zH
    ⟨[.int .i64 0, .string ⟨#[]⟩, .int .i64 0, .string ⟨#[]⟩, .string ⟨#[]⟩, .slice none 0 0, .slice none 0 0], noT, j, b, rfl, TyAt.zero _,
     ⟨K5.os, K5.tape, K5.output, by have := K5.size; simpa using this, fun k hk hne => (setRow_other w5 w.heap.size k _ (by omega)).trans (K5.block k hk hne)⟩,
     .inr ⟨hb0, by
      obtain ⟨x', g', e1, e2⟩ := G5;exact ⟨x', g', (setRow_other w5 w.heap.size q _ (by omega)).trans e1, (setRow_other w5 w.heap.size g' _ (two_types e2 X5 (by decide))).trans e2⟩⟩, by rw [badR_ne _ _ hb0, herr]; rfl⟩
   rw [ss.1] at Y5;unfold Bx at Y5
   obtain ⟨x0, x1, x2, x3, x4, x5, x6⟩ := cq7 Y5;simp at x0 x1 x2 x3 x4 x5 x6;have HX5 := zH X5;have HW5 := zH hw5;unfold Bx at X5
   clear hbc hsp Xc Yc hw5 o5 G5 K5 CA HH1 HX0 HX1 z0 z1 z2 z3 z4 z5 z6 a0 a1 a2 Gc hgq hgx herr hb0;go_upto_region 7 with fail
   rw [<- HW5.out];go_wp2_with (first | ((with_reducible refine wpList_putRow 48 (w.heap.size) #[.int .i64 0, .string ⟨#[]⟩, .int .i64 0, .string ⟨#[]⟩, .string ⟨#[]⟩, .slice none 0 0, .slice none 0 0] _ _ X5 ?_ ?_ ?_ ?_ ?_ ?_); exact tySize; rfl; exact tyOne; iterate 2 (focus (first | (go_simp; done) | rfl))))
   exact ret_agg1 (fn := Tryz.f78) (vs := [.int .i64 0, .string ⟨#[]⟩, .int .i64 0, .string ⟨#[]⟩, .string ⟨#[]⟩, .slice none 0 0, .slice none 0 0]) (b := w.heap.size) rfl rfl Tryz.underlying48 (by kernel_rfl) (cell7 (setRow_heap w5 w.heap.size _ _ _ _ HX5.out)) rfl SEAL.out
structure Reads (α : Type) where
  k : Nat
  T : TypeId
  E : World -> List Value -> α -> Prop
  move : ∀ (S S' : Nat -> Prop) (w w' : World) (l : List Value) (x : α), E (strike S w) l x -> w.heap.size <= w'.heap.size -> (∀ b, b < w.heap.size -> ¬ S b -> ¬ S' b /\ w'.heap[b]? = w.heap[b]?) -> E (strike S' w') l x
  keep : ∀ (w w' : World) (l : List Value) (x : α), E w l x -> Below w.heap.size w w' -> E w' l x
  free : ∀ (S : Nat -> Prop) (w : World) (l : List Value) (x : α), E (strike S w) l x -> E w l x
  len : ∀ (w : World) (l : List Value) (x : α), E w l x -> l.length = k
def RowIn {α : Type} (R : Reads α) (w : World) (A : Option Addr) (xs : List α) : Prop :=
  ∀ i x, xs[i]? = some x -> ∃ (g o : Nat) (l : List Value), A = some ⟨g, o, none⟩ /\ g < w.heap.size /\ (∀ j v, l[j]? = some v -> w.cell? ⟨g, o + i * R.k + j, none⟩ = some v) /\ R.E w l x
theorem RowIn.below {α : Type} {R : Reads α} {w w' : World} {A : Option Addr} {xs : List α} (h : RowIn R w A xs) (hb : Below w.heap.size w w') : RowIn R w' A xs := fun i x hx => by
  obtain ⟨g, o, l, hA, hg, hc, hE⟩ := h i x hx;exact ⟨g, o, l, hA, Nat.lt_of_lt_of_le hg hb.size, fun j v hv => (hb.cell (p := ⟨g, _, none⟩) hg).trans (hc j v hv), R.keep _ _ _ _ hE hb⟩
structure Row {α : Type} (R : Reads α) (lo : Nat) (xs : List α) (A : Option Addr) (c : Nat) (w : World) : Prop where
  cells : ∃ C : List (List Value), C.length = xs.length /\ w.ownsRow lo R.T R.k (.slice A xs.length c) xs.length C.flatten /\
    ∀ (i : Nat) (l : List Value) (x : α), C[i]? = some l -> xs[i]? = some x -> R.E (strike (fun b => b < lo \/ (Value.slice A xs.length c).ownBlock = some b) w) l x
theorem Row.start {α : Type} (R : Reads α) (lo : Nat) (w : World) : Row R lo [] none 0 w := ⟨[], rfl, World.ownsRow_nil _ _ _ _, fun i l x h => by simp at h⟩
theorem Row.keep {α : Type} {R : Reads α} {lo : Nat} {xs : List α} {A : Option Addr} {c : Nat} {w w' : World} (h : Row R lo xs A c w) (hz : w.heap.size <= w'.heap.size) (hb : ∀ b, lo <= b -> b < w.heap.size -> w'.heap[b]? = w.heap[b]?) : Row R lo xs A c w' := by
  obtain ⟨C, h1, h3, h4⟩ := h.cells
  exact ⟨C, h1, own_from h3 hb, fun i l x hl hx => R.move _ _ _ _ _ _ (h4 i l x hl hx) hz fun b hlt hS => ⟨hS, hb b (by
    rcases Nat.lt_or_ge b lo with h | h
    · exact absurd (.inl h) hS
    · exact h) hlt⟩⟩
theorem Row.lt {α : Type} {R : Reads α} {lo : Nat} {xs : List α} {A : Option Addr} {c : Nat} {w : World} (h : Row R lo xs A c w) {b : Nat} (e : (Value.slice A xs.length c).ownBlock = some b) : lo <= b /\ b < w.heap.size := by
  obtain ⟨C, h1, h3, h4⟩ := h.cells;exact h3.lt b e
theorem Row.more {α : Type} {R : Reads α} {lo g cap c : Nat} {xs : List α} {A : Option Addr} {B : Nat} {w1 w3 : World} {o : Obj} {l : List Value} {x : α} {C : List (List Value)}
    (h : Row R lo xs A c w1) (hlo : lo <= B) (hwo : ∀ b, (Value.slice A xs.length c).ownBlock = some b -> b < B)
    (hC1 : C.length = xs.length) (hC4 : ∀ (i : Nat) (l : List Value) (x : α), C[i]? = some l -> xs[i]? = some x -> R.E (strike (fun b => b < lo \/ (Value.slice A xs.length c).ownBlock = some b) w1) l x)
    (hE : R.E (strike (· < B) w1) l x) (hown : w3.ownsRow lo R.T R.k (.slice (some ⟨g, 0, none⟩) (xs.length + 1) cap) (xs.length + 1) (C.flatten ++ l)) (hgrow : (w1.alloc o).grownBy w3 (Value.slice A xs.length c).ownBlock)
    (hat : (Value.slice A xs.length c).ownBlock = some g \/ g = (w1.alloc o).heap.size) :
    Row R lo (xs ++ [x]) (some ⟨g, 0, none⟩) cap w3 /\ (∀ b, (Value.slice A xs.length c).ownBlock ≠ some b -> b < w1.heap.size -> w3.heap[b]? = w1.heap[b]?) /\ w1.heap.size <= w3.heap.size := by
  have hsz : (w1.alloc o).heap.size = w1.heap.size + 1 := by simp
  have hsz3 := hgrow.size
  have hold : ∀ b, b < w1.heap.size -> (Value.slice A xs.length c).ownBlock ≠ some b -> w3.heap[b]? = w1.heap[b]? := fun b hb hne => by
    rw [hgrow.block b (by omega) (fun e => hne e.symm)];exact Lib.alloc_old w1 o b hb
  have mv : ∀ l x, R.E (strike (fun b => b < lo \/ (Value.slice A xs.length c).ownBlock = some b) w1) l x -> R.E (strike (fun b => b < lo \/ (Value.slice (some ⟨g, 0, none⟩) (xs ++ [x]).length cap).ownBlock = some b) w3) l x := fun l x hT => by
    refine R.move _ _ _ _ _ _ hT (by omega) fun b hb hS => ⟨?_, hold b hb (fun e => hS (.inr e))⟩
    rintro (e | e)
    · exact hS (.inl e)
    · simp [Value.ownBlock] at e
      subst e;rcases hat with e | e
      · exact hS (.inr e)
      · omega
  have hT : R.E (strike (fun b => b < lo \/ (Value.slice A xs.length c).ownBlock = some b) w1) l x := R.move _ _ _ _ _ _ hE (Nat.le_refl _) fun b hlt hS => ⟨by
    rintro (e | e)
    · omega
    · have := hwo b e; omega, rfl⟩
  refine ⟨⟨C ++ [l], by simp [hC1], ?_, fun i y u hy hu => ?_⟩, fun b hb hlt => hold b hlt hb, by omega⟩
  · rw [List.length_append]
    simpa using hown
  · rcases Nat.lt_or_ge i xs.length with hi | hi
    · rw [List.getElem?_append_left (by omega)] at hy hu
      have := mv y u (hC4 i y u hy hu)
      simpa [Value.ownBlock] using this
    · have hi' := (List.getElem?_eq_some_iff.1 hy).1
      have : i = xs.length := by simp [hC1] at hi'; omega
      subst this;rw [List.getElem?_append_right (by omega)] at hy hu;simp [hC1] at hy;simp at hu;rw [<- hy, <- hu];have := mv l x hT
      simpa [Value.ownBlock] using this
theorem flatk_at {k : Nat} : ∀ (C : List (List Value)), (∀ l, l ∈ C -> l.length = k) -> ∀ (i q : Nat) (l : List Value), C[i]? = some l -> q < k -> C.flatten[i * k + q]? = l[q]?
  | [], _, i, q, l, h, _ => by simp at h
  | a :: r, hC, i, q, l, h, hq => by
    have ha : a.length = k := hC a List.mem_cons_self;rw [List.flatten_cons];cases i with
    | zero =>
      simp at h; subst h
      rw [List.getElem?_append_left (by omega)];congr 1; omega
    | succ i =>
      rw [List.getElem?_append_right (by rw [ha, Nat.succ_mul]; omega), ha, show (i + 1) * k + q - k = i * k + q by rw [Nat.succ_mul]; omega];exact flatk_at r (fun l hl => hC l (List.mem_cons_of_mem _ hl)) i q l (by simpa using h) hq
theorem Row.done {α : Type} {R : Reads α} {lo : Nat} {xs : List α} {A : Option Addr} {c m : Nat} {w : World} (h : Row R lo xs A c w) (hm : m <= lo) : RowIn R (strike (· < m) w) A xs := by
  intro i x hx;obtain ⟨C, h1, h3, h4⟩ := h.cells;have hi := (List.getElem?_eq_some_iff.1 hx).1;have hl : C[i]? = some C[i] := List.getElem?_eq_getElem (by omega)
  have hall : ∀ l, l ∈ C -> l.length = R.k := fun l hl => by
    obtain ⟨j, hj⟩ := List.mem_iff_getElem?.1 hl;have hj' := (List.getElem?_eq_some_iff.1 hj).1
    exact R.len _ _ _ (h4 j l xs[j] hj (List.getElem?_eq_getElem (by omega)))
  have hE := h4 i _ x hl hx;rcases h3.2 with ⟨e, -⟩ | ⟨g, cap, cur, hv, hB, hg, -, -, hcl, htake⟩
  · cases A with
    | none => simp at e; simp [e.1] at hi
    | some a => simp at e
  · simp at hv
    obtain ⟨rfl, -⟩ := hv;refine ⟨g, 0, C[i], rfl, ?_, fun j v hv => strike_cell.2 ⟨by omega, ?_⟩, R.move _ _ _ _ _ _ hE (Nat.le_refl _) fun b hlt hS => ⟨fun e => hS (.inl (by omega)), rfl⟩⟩
    · rw [strike_size]; exact (Array.getElem?_eq_some_iff.1 hg).1
    · have hj := (List.getElem?_eq_some_iff.1 hv).1
      rw [hall _ (List.getElem_mem (by omega))] at hj;have hf := flatk_at C hall i j _ hl hj;rw [cZ hg, <- Array.getElem?_toList];have e2 : (cur.toList.take (xs.length * R.k))[i * R.k + j]? = C[i][j]? := by rw [htake, hf]
      rw [List.getElem?_take] at e2;split at e2
      · rw [show 0 + i * R.k + j = i * R.k + j by omega, e2]; exact hv
      · rename_i hn
        have : (i + 1) * R.k <= xs.length * R.k := Nat.mul_le_mul_right _ hi
        rw [Nat.succ_mul] at this;omega
def imL (x : Im) : List Value := [.string x.pkg, .int .i64 x.major, .string x.mod, .string x.asn]
def imE (_ : World) (l : List Value) (x : Im) : Prop := l = imL x /\ x.pkg.size <= 9223372036854775807 /\ x.mod.size <= 9223372036854775807 /\ x.asn.size <= 9223372036854775807
def imR : Reads Im := ⟨4, 57, imE, fun _ _ _ _ _ _ h _ _ => h, fun _ _ _ _ h _ => h, fun _ _ _ _ h => h, fun _ l x h => by rw [h.1]; rfl⟩
def deE (w : World) (l : List Value) (d : De) : Prop := d.name.size <= 9223372036854775807 /\ ∃ l7 : List Value, l = .int .i64 d.kind :: .string d.name :: l7 /\ TyAt w l7 d.typ
theorem TyAt.len {w : World} {l : List Value} {t : Ty} (h : TyAt w l t) : l.length = 7 := by
  obtain ⟨_, _, _, _, rfl, -⟩ := h.parts;rfl
def deR : Reads De := ⟨9, 171, deE, fun _ _ _ _ _ _ ⟨hs, l7, e, h⟩ hz hb => ⟨hs, l7, e, h.move hz hb⟩, fun _ _ _ _ ⟨hs, l7, e, h⟩ hb => ⟨hs, l7, e, h.keep hb⟩, fun _ _ _ _ ⟨hs, l7, e, h⟩ => ⟨hs, l7, e, h.free⟩, fun _ l x ⟨_, l7, e, h⟩ => by rw [e]; simp [h.len]⟩
def MoAt (w : World) (l : List Value) (m : Mo) : Prop :=
  ∃ (Ai : Option Addr) (ci : Nat) (Ad : Option Addr) (cd : Nat), l = [.string m.name, .slice Ai m.imps.length ci, .slice Ad m.decs.length cd] /\ m.name.size <= 9223372036854775807 /\ m.imps.length <= 9223372036854775807 /\ m.decs.length <= 9223372036854775807 /\ RowIn imR w Ai m.imps /\ RowIn deR w Ad m.decs
theorem RowIn.move {α : Type} {R : Reads α} {S S' : Nat -> Prop} {w w' : World} {A : Option Addr} {xs : List α} (h : RowIn R (strike S w) A xs) (hz : w.heap.size <= w'.heap.size) (hb : ∀ b, b < w.heap.size -> ¬ S b -> ¬ S' b /\ w'.heap[b]? = w.heap[b]?) : RowIn R (strike S' w') A xs := fun i x hx => by
  obtain ⟨g, o, l, hA, hg, hc, hE⟩ := h i x hx;refine ⟨g, o, l, hA, by rw [strike_size] at hg ⊢; omega, fun j v hv => ?_, R.move _ _ _ _ _ _ hE hz hb⟩;obtain ⟨h1, h2⟩ := strike_cell.1 (hc j v hv);obtain ⟨h3, h4⟩ := hb g (World.block_lt_of_cell? _ _ h2) h1;exact strike_cell.2 ⟨h3, by rw [World.cell?_of_block (w := w) (a := ⟨g, _, none⟩) h4]; exact h2⟩
theorem RowIn.free {α : Type} {R : Reads α} {S : Nat -> Prop} {w : World} {A : Option Addr} {xs : List α} (h : RowIn R (strike S w) A xs) : RowIn R w A xs := fun i x hx => by
  obtain ⟨g, o, l, hA, hg, hc, hE⟩ := h i x hx;exact ⟨g, o, l, hA, by rw [strike_size] at hg; exact hg, fun j v hv => (strike_cell.1 (hc j v hv)).2, R.free _ _ _ _ hE⟩
end Go.Proofs.YtddlmigofilejaaGreatDoor
namespace Go.Proofs.YtddlmigofilejaaGreatDoor
open Go Go.ChangeShapes Go.WideShapes Go.ChangeAt Go.RowKit Go.Joins Go.Deep
open M
section
variable {H : Type} {enc : TypeId × Value -> H} {w : World} {base : Nat} {sp : Nat -> Bool} {held : Bool}
end
end Go.Proofs.YtddlmigofilejaaGreatDoor
