/-
  Several texts in one: The library's Itoa at this translation, and the table that it reads. · Walks of package kind's writers: the texts of types that may be, into a builder. · Maps of names, and what a Local names: the code's. · The walk of the reference's Copy. · The walk of the reference's Copy of modules.
-/
import Derived.Test.YtkgmdbkcldojnaaGreatDoorJ07
import Derived.Test.YtkgmdbkcldojnaaGreatDoorJ02
import Derived.Test.YtkgmdbkcldojnaaGreatDoorJ08
import Derived.Test.YtkgmdbkcldojnaaGreatDoorJ03
import Derived.Maps.OwnSet
import Derived.Lib.Strings
import Derived.WalkKit
import Derived.Test.YtkgmdbkcldojnaaGreatDoorJ00
import Derived.Test.YtkgmdbkcldojnaaGreatDoorJ01
import Derived.Deep.RegionLaw
import Derived.Deep.DeepCutAuto
import Derived.Deep.CutBlock
import Derived.Maps.AppendAt
import Derived.Test.YtkgmdbkcldojnaaGreatDoorJ05
import Derived.Test.YtkgmdbkcldojnaaGreatDoorJ06
/- The library's Itoa at this translation, and the table that it reads. -/
namespace Go.Proofs.YtkgmdbkcldojnaaGreatDoor
open Go.RowKit

/-- The library's table of powers of ten lies as the program's text lays it. -/
def Pow (w : World) : Prop := Lib.TabIs Tryz.prog w "internal/strconv.uint64pow10" .u64 Lib.pow10Tab
theorem Pow.on {w w' : World} (h : Pow w) (hb : Below w.heap.size w w') : Pow w' := Lib.tabBelow_of_tabIs h w' hb

theorem itoa_any (n : Int) (w : World) (h0 : 0 ≤ n) (h1 : n ≤ 9223372036854775807) (hp : Pow w) :
    Calls Tryz.prog 96 #[.int .i64 n] w fun e w' => e = .returned (.string (dec n)) ∧ Below w.heap.size w w' :=
  (Tryz.strconv_Itoa n (by omega) h1 w hp).mono fun e w' ⟨he, k, os, hw⟩ => by
    subst hw
    refine ⟨?_, ⟨rfl, rfl, rfl, Lib.size_grow _ _ _, ?_⟩⟩
    · rw [he]; unfold Lib.itoa dec; rw [if_neg (by omega)]
    · intro j hj
      exact Lib.heap_grow_old w k os j hj

end Go.Proofs.YtkgmdbkcldojnaaGreatDoor

/- Walks of package kind's writers: the texts of types that may be, into a builder. -/
namespace Go.Proofs.YtkgmdbkcldojnaaGreatDoor
open Go.RowKit
open Go.Sort
open M

theorem ownsRow_below {w w' : World} {B : Nat} {e : TypeId} {z : Nat} {v : Value} {n : Nat} {xs : List Value} (h : w.ownsRow B e z v n xs) (hb : Below w.heap.size w w') : w'.ownsRow B e z v n xs := by
  refine ⟨h.1, ?_⟩
  rcases h.2 with h | ⟨g, cap, cur, hv, hB, hg, rest⟩
  · exact .inl h
  · exact .inr ⟨g, cap, cur, hv, hB, (hb.block g (Array.getElem?_eq_some_iff.1 hg).1).trans hg, rest⟩
theorem builder_below {T e : TypeId} {B b : Nat} {p : Value} {bs : List Value} {w w' : World} (h : Lib.BuilderAt T e B b p bs w) (hb : Below w.heap.size w w') : Lib.BuilderAt T e B b p bs w' := by
  have hlt := h.lt
  obtain ⟨hB, v, hbk, hown, hne⟩ := h
  exact ⟨hB, v, (hb.block b hlt).trans hbk, ownsRow_below hown hb, hne⟩

/-- The builder at b holds these bytes; of what was there ahead, and is no row of bytes, nothing has turned. -/
def Wr (B b : Nat) (w0 : World) (l : List UInt8) (w : World) : Prop :=
  Lib.IsBuilder 108 5 B b (Lib.byteCells l) w ∧ Below B w0 w ∧ Lib.OthersKept 5 (some b) w0 w
theorem Wr.lt {B b : Nat} {w0 w : World} {l : List UInt8} (h : Wr B b w0 l w) : b < w.heap.size := h.1.elim (fun h => h.lt) (fun h => h.lt)
theorem Wr.le {B b : Nat} {w0 w : World} {l : List UInt8} (h : Wr B b w0 l w) : B ≤ b := h.1.elim (fun h => h.1) (fun h => h.1)
theorem Wr.alloc {B b : Nat} {w0 w : World} {l : List UInt8} (h : Wr B b w0 l w) (o : Obj) : Wr B b w0 l (w.alloc o) :=
  ⟨isBld_alloc h.1 o, h.2.1.alloc (by have := h.lt; have := h.le; omega) o, h.2.2.alloc o⟩
theorem Wr.below {B b : Nat} {w0 w w' : World} {l : List UInt8} (h : Wr B b w0 l w) (hb : Below w.heap.size w w') : Wr B b w0 l w' :=
  ⟨h.1.elim (fun h => .inl (builder_below h hb)) (fun h => .inr (builder_below h hb)), h.2.1.trans (hb.mono (by have := h.lt; have := h.le; omega)),
    fun k o hk hne ho => by
      have h1 := h.2.2 k o hk hne ho
      exact (hb.block k (Array.getElem?_eq_some_iff.1 h1).1).trans h1⟩
theorem Wr.base {B b : Nat} {w0 w : World} {l : List UInt8} (h : Wr B b w0 l w) : Wr B b w l w := ⟨h.1, Below.refl _ _, Lib.OthersKept.refl _ _ _⟩
theorem Wr.over {B b : Nat} {w0 w w' : World} {l l' : List UInt8} (h : Wr B b w0 l w) (h' : Wr B b w l' w') : Wr B b w0 l' w' := ⟨h'.1, h.2.1.trans h'.2.1, h.2.2.trans h'.2.2⟩
theorem Wr.cell {B b : Nat} {w0 w : World} {l : List UInt8} (h : Wr B b w0 l w) {k : Nat} {cs : Array Value} (hk : w0.heap[k]? = some (.cells cs 30 (0, 0))) (hne : k ≠ b) (i : Nat) : w.cell? ⟨k, i, none⟩ = cs[i]? :=
  kept_cell h.2.2 hk hne (by decide) i
theorem Wr.eq {B b : Nat} {w0 w : World} {l l' : List UInt8} (h : Wr B b w0 l w) (e : l = l') : Wr B b w0 l' w := e ▸ h

theorem wr_str {B b : Nat} {w0 w : World} {l : List UInt8} (h : Wr B b w0 l w) (s : ByteArray) (hl : l.length + s.size ≤ 4000000) :
    Calls Tryz.prog 92 #[.pointer (some ⟨b, 0, none⟩), .string s] w fun e w' => e = .returned (.tuple #[.int .i64 s.size, .nilIface]) ∧ Wr B b w0 (l ++ s.data.toList) w' := by
  refine (writeString_any B b _ s w h.1 (by rw [Lib.byteCells_length]; omega) (by have := h.lt; have := h.le; omega)).mono ?_
  rintro e w' ⟨rfl, h1, hb, hk⟩
  refine ⟨rfl, .inr ?_, h.2.1.trans hb, h.2.2.trans hk⟩
  rw [Lib.strCells_eq, ← Lib.byteCells_append] at h1
  exact h1

theorem z46 : (⟨#[46]⟩ : ByteArray).size = 1 := rfl
theorem z58 : (⟨#[58, 32]⟩ : ByteArray).size = 2 := rfl
theorem z44 : (⟨#[44, 32]⟩ : ByteArray).size = 2 := rfl
theorem len_app (l : List UInt8) (s : ByteArray) : (l ++ s.data.toList).length = l.length + s.size := by rw [List.length_append, len_size]
/-- What a call of write is to do. -/
def WriteOk (s : Ty) : Prop := ∀ (B b : Nat) (v : Value) (W w0 w : World) (l : List UInt8), TyV W v s → Below W.heap.size W w0 → W.heap.size ≤ B → Pow W → Wr B b w0 l w → l.length + (textT s).length ≤ 4000000 →
  Calls Tryz.prog 55 #[.pointer (some ⟨b, 0, none⟩), v] w fun e w' => e = .returned (.tuple #[]) ∧ Wr B b w0 (l ++ textT s) w'

theorem row_step (L : List (List UInt8)) (ns : List ByteArray) (k : Nat) : rowOf L ns (k + 1) = (if 0 < k then rowOf L ns k ++ [44, 32] else rowOf L ns k) ++ (if 0 < ns.length then (nameAt ns k).data.toList ++ [58, 32] else []) ++ L.getD k [] := rfl
theorem row_step0 (L : List (List UInt8)) (k : Nat) : rowOf L [] (k + 1) = (if 0 < k then rowOf L [] k ++ [44, 32] else rowOf L [] k) ++ L.getD k [] := by
  have e : (if 0 < ([] : List ByteArray).length then (nameAt [] k).data.toList ++ [58, 32] else []) = ([] : List UInt8) := if_neg (Nat.lt_irrefl 0)
  rw [row_step, e, List.append_nil]
theorem row_mono (L : List (List UInt8)) (ns : List ByteArray) {k : Nat} : ∀ m, k ≤ m → (rowOf L ns k).length ≤ (rowOf L ns m).length := by
  intro m h
  induction m with
  | zero => obtain rfl : k = 0 := by omega
            exact Nat.le_refl _
  | succ m ih =>
    rcases Nat.eq_or_lt_of_le h with e | e
    · rw [e]; exact Nat.le_refl _
    · refine Nat.le_trans (ih (by omega)) ?_
      rw [row_step]
      split <;> simp only [List.length_append] <;> omega

set_option maxRecDepth 100000 in
set_option maxHeartbeats 4000000 in
theorem writeLocal_any (t : Ty) (h8 : ownOk t = true) (hk : t.kind = 8) (B b : Nat) (v : Value) (W w0 w : World) (l : List UInt8) (hv : TyV W v t) (hW : Below W.heap.size W w0) (hWB : W.heap.size ≤ B) (hw : Wr B b w0 l w) (hl : l.length + (textT t).length ≤ 4000000) :
    Calls Tryz.prog 95 #[.pointer (some ⟨b, 0, none⟩), v] w fun e w' => e = .returned (.tuple #[]) ∧ Wr B b w0 (l ++ textT t) w' := by
  have hm : t.mod.size ≤ 20 ∧ t.name.size ≤ 20 := by
    unfold ownOk at h8
    simp only [Bool.and_eq_true] at h8
    have h := h8.2
    unfold shapeOk at h
    rw [hk] at h
    simp [emptyB] at h
    have hz8 : t.mod.size ≤ 20 := by
      rcases h.2 with h | h
      · exact small_len h
      · rw [h]; exact Nat.zero_le _
    exact ⟨hz8, great_len h.1.2⟩
  obtain ⟨z1, z2⟩ := hm
  have HV := Lib.hid hv
  obtain ⟨lv, rfl, hT⟩ := hv
  obtain ⟨An, cn, As, cs, rfl, zp, zm, za, hzn, hz, hNA, hS⟩ := hT.parts
  have HCAP := Lib.hid hT.cap
  have HS := Lib.hid hS
  have HNA := Lib.hid hNA
  have HLT := Lib.hid (textsT_len t.subs)
  have hbw := hw.lt
  obtain ⟨wb, hwb⟩ : ∃ wb, wb = w.alloc (.cells #[.int .i64 t.kind, .string t.pkg, .int .i64 t.major, .string t.mod, .string t.name, .slice An t.names.length cn, .slice As t.subs.length cs] 30) := ⟨_, rfl⟩
  have HA : Hid (Wr B b w0 l wb) := Lib.hid (by rw [hwb]; exact hw.alloc _)
  have H0 := Lib.hid HA.out.base
  have HK : Hid (wb.heap[w.heap.size]? = some (.cells #[.int .i64 t.kind, .string t.pkg, .int .i64 t.major, .string t.mod, .string t.name, .slice An t.names.length cn, .slice As t.subs.length cs] 30 (0, 0))) := Lib.hid (by rw [hwb]; exact heap_alloc_new w _)
  have hne : w.heap.size ≠ b := by omega
  have HWB := Lib.hid hwb
  have HWw : Hid (Below W.heap.size W wb) := Lib.hid (hW.trans (HA.out.2.1.mono hWB))
  clear hT hS hNA hW hwb hw
  have n1 : ¬ (t.mod.size + 1 > 9223372036854775807) := by omega
  by_cases hz : t.mod.size = 0
  · obtain ⟨x1, y1⟩ := empty_facts _ hz
    have HT : Hid (textT t = t.name.data.toList) := Lib.hid (by rw [textT_eq, hk]; simp [kindText, hz])
    have hl2 : l.length + t.name.size ≤ 4000000 := by have := HT.out; rw [this, len_size] at hl; exact hl
    clear hz hk
    go_enter Tryz.func95, Tryz.ntmps95
    go_wp2_with fail
    rw [← HWB.out]
    refine (wr_str H0.out t.name hl2).mono ?_; rintro e w1 ⟨rfl, g1⟩
    go_wp2_with fail
    go_end0
    exact ⟨rfl, (HA.out.over g1).eq (by rw [HT.out])⟩
  · obtain ⟨x1, y1⟩ := full_facts _ hz
    have HT : Hid (textT t = t.mod.data.toList ++ [46] ++ t.name.data.toList) := Lib.hid (by rw [textT_eq, hk]; simp [kindText, hz])
    have hl2 : l.length + t.mod.size + 1 + t.name.size ≤ 4000000 := by
      have := HT.out; rw [this] at hl; simp only [List.length_append, List.length_cons, List.length_nil, len_size] at hl; omega
    clear hz hk
    go_enter Tryz.func95, Tryz.ntmps95
    go_wp2_with fail
    rw [← HWB.out]
    refine (wr_str H0.out _ ?_).mono ?_
    · rw [ByteArray.size_append, z46]; omega
    rintro e w1 ⟨rfl, g1⟩
    have c4 := g1.cell HK.out hne 4
    simp at c4
    have g1l : (l ++ (t.mod ++ (⟨#[46]⟩ : ByteArray)).data.toList).length + t.name.size ≤ 4000000 := by
      rw [List.length_append, len_size, ByteArray.size_append, z46]; omega
    go_wp2_with fail
    refine (wr_str g1 _ ?_).mono ?_
    · exact g1l
    rintro e w2 ⟨rfl, g2⟩
    go_wp2_with fail
    go_end0
    exact ⟨rfl, (HA.out.over g2).eq (by rw [HT.out]; simp)⟩

end Go.Proofs.YtkgmdbkcldojnaaGreatDoor

/- Maps of names, and what a Local names: the code's. -/
namespace Go.Proofs.YtkgmdbkcldojnaaGreatDoor
open Go.RowKit
open Go.Sort Go.Maps
open M

theorem lawStr : Go.Maps.Keyed Tryz.prog 9 := Go.Maps.string_keyed Tryz.underlying9
theorem zeroInt (w : World) : (zeroValue 3).run Tryz.prog w = .ok (.int .i64 0) w := by kernel_rfl

/-- A map that tells which names are there, and of each a number. -/
def MapS (w : World) (b n : Nat) (p : ByteArray → Bool) (f : ByteArray → Int → Prop) : Prop :=
  ∃ D : DataW Unit, w.ownsMap Tryz.prog 9 (plainElem Tryz.prog 3) b n D ∧ Go.Maps.IsMap D ∧ ∀ s : ByteArray, s.size ≤ maxLen → Go.Maps.has D (.string s.data.toList) = p s ∧ (p s = true → ∀ c, D.atKey (.string s.data.toList) (.lit (.int .i64 0)) = .lit (.int .i64 c) → f s c)
theorem MapS.below {w w' : World} {b n : Nat} {p : ByteArray → Bool} {f : ByteArray → Int → Prop} (h : MapS w b n p f) (hb : Below w.heap.size w w') : MapS w' b n p f := by
  obtain ⟨D, ⟨es, clock, h1, h2, h3, h4⟩, hm, h5⟩ := h
  exact ⟨D, ⟨es, clock, (hb.block b (Array.getElem?_eq_some_iff.1 h1).1).trans h1, h2, h3, h4⟩, hm, h5⟩
theorem MapS.lt {w : World} {b n : Nat} {p : ByteArray → Bool} {f : ByteArray → Int → Prop} (h : MapS w b n p f) : b < w.heap.size := by
  obtain ⟨D, hD, -⟩ := h
  exact hD.lt
/-- What a module's names are read as: imports, and types. -/
structure NmS (w : World) (b0 b1 : Nat) (m : Mo) : Prop where
  ims : ∃ n, MapS w b0 n (impHas m) (fun _ _ => True)
  tys : ∃ n, MapS w b1 n (fun s => (typAt m s).isSome) (fun s c => typAt m s = some c.toNat ∧ 0 ≤ c)
theorem NmS.below {w w' : World} {b0 b1 : Nat} {m : Mo} (h : NmS w b0 b1 m) (hb : Below w.heap.size w w') : NmS w' b0 b1 m :=
  ⟨h.ims.imp fun _ h => h.below hb, h.tys.imp fun _ h => h.below hb⟩
/-- Numbers in cells of one's own. -/
def natCells (l : List Nat) : List Value := l.map fun (i : Nat) => Value.int .i64 (i : Int)
def OwnN (w : World) (lo : Nat) (v : Value) (l : List Nat) : Prop := w.ownsRow lo 3 1 v l.length (natCells l)
theorem own_nilN (w : World) (lo : Nat) : OwnN w lo (.slice none 0 0) [] := World.ownsRow_nil _ _ _ _

set_option maxRecDepth 100000 in
set_option maxHeartbeats 8000000 in
theorem local_said (m : Mo) (t : Ty) (b0 b1 : Nat) (A : Option Addr) (n c : Nat) (v : Value) (w : World) (hk : t.kind = 8) (hN : NmS w b0 b1 m) (hv : TyV w v t) :
    Calls Tryz.prog 117 #[.agg #[.map (some b0), .map (some b1), .slice A n c], v] w fun e w' => ∃ v' : Value, e = .returned (.tuple #[v', .bool (wholeT m t)]) ∧ OwnN w' w.heap.size v' (saidT m t) ∧ Below w.heap.size w w' := by
  obtain ⟨l, rfl, hT⟩ := hv
  obtain ⟨An, cn, As, cs, rfl, zp, zm, za, zn, zs, -, -⟩ := hT.parts
  rw [saidT_local m t hk, wholeT_local m t hk]
  have hz1 : t.mod.size ≤ maxLen := by unfold maxLen; omega
  have hz2 : t.name.size ≤ maxLen := by unfold maxLen; omega
  obtain ⟨W2, hW2⟩ : ∃ W2, W2 = (w.alloc (.cells #[.map (some b0), .map (some b1), .slice A n c] 90)).alloc (.cells #[.int .i64 t.kind, .string t.pkg, .int .i64 t.major, .string t.mod, .string t.name, .slice An t.names.length cn, .slice As t.subs.length cs] 30) := ⟨_, rfl⟩
  have hB : Below w.heap.size w W2 := by rw [hW2]; exact below_new (below_new (Below.refl _ _) _) _
  have hs1 : (w.alloc (.cells #[.map (some b0), .map (some b1), .slice A n c] 90)).heap.size = w.heap.size + 1 := by simp
  have X1 : W2.heap[w.heap.size]? = some (.cells #[.map (some b0), .map (some b1), .slice A n c] 90 (0, 0)) := by
    rw [hW2, Lib.alloc_old _ _ _ (by rw [hs1]; omega)]; exact heap_alloc_new w _
  have X2 : W2.heap[w.heap.size + 1]? = some (.cells #[.int .i64 t.kind, .string t.pkg, .int .i64 t.major, .string t.mod, .string t.name, .slice An t.names.length cn, .slice As t.subs.length cs] 30 (0, 0)) := by
    rw [hW2, ← hs1]; exact heap_alloc_new _ _
  obtain ⟨⟨n0, D0, o0, -, k0⟩, ⟨n1, D1, o1, -, k1⟩⟩ := hN.below hB
  have x0 := Lib.cell_of_heap X1 0
  have x1 := Lib.cell_of_heap X1 1
  have y3 := Lib.cell_of_heap X2 3
  have y4 := Lib.cell_of_heap X2 4
  simp at x0 x1 y3 y4
  have kk0 := Go.WideMaps.keyOf_string_mk (P := Tryz.prog) Tryz.underlying9 hz1
  have kk1 := Go.WideMaps.keyOf_string_mk (P := Tryz.prog) Tryz.underlying9 hz2
  have HB := Lib.hid hB
  have HW2 := Lib.hid hW2
  have hlo : w.heap.size ≤ W2.heap.size := hB.size
  clear hT hN hk hB hW2 X1 X2 hs1
  by_cases hz : t.mod.size = 0
  · rw [if_pos hz, if_pos hz]
    obtain ⟨e1, e2⟩ := empty_facts _ hz
    have h1 : has D1 (.string t.name.data.toList) = (typAt m t.name).isSome := (k1 t.name hz2).1
    have h2 : (typAt m t.name).isSome = true → ∀ c, D1.atKey (.string t.name.data.toList) (.lit (.int .i64 0)) = .lit (.int .i64 c) → typAt m t.name = some c.toNat ∧ 0 ≤ c := (k1 t.name hz2).2
    clear k0 k1 o0 kk0 hz x0
    cases hq : typAt m t.name with
    | none =>
      rw [hq] at h1
      simp only [Option.isSome_none] at h1
      have H1 := Lib.hid h1
      have FIN := Lib.hid (own_nilN W2 w.heap.size)
      clear h1 h2 hq
      go_enter Tryz.func117, Tryz.ntmps117
      go_upto_region 1 with fail
      rw [← HW2.out]
      go_wp2_with (at_lookup; refine Go.wpList_lookup_own_ok_int _ rfl _ _ 87 rfl 9 3 .i64 lawStr Tryz.underlying87 Tryz.underlying3 (zeroInt _) b1 n1 D1 rfl o1 _ _ rfl kk1 ?_; intro c hat hwc; rw [H1.out])
      go_ret2
      exact ⟨_, rfl, FIN.out, HB.out⟩
    | some i =>
      rw [hq] at h1
      simp only [Option.isSome_some] at h1
      have H1 := Lib.hid h1
      have HC : Hid (∀ c, D1.atKey (.string t.name.data.toList) (.lit (.int .i64 0)) = .lit (.int .i64 c) → c = (i : Int)) := Lib.hid (fun c hc => by
        obtain ⟨a, b⟩ := h2 (by rw [hq]; rfl) c hc
        rw [hq] at a
        have := Option.some.inj a
        omega)
      have FIN : Hid (OwnN (W2.alloc (.cells #[.int .i64 i] 3)) w.heap.size (.slice (some ⟨W2.heap.size, 0, none⟩) 1 1) [i]) := Lib.hid (World.ownsRow_lit (base := w.heap.size) (e := 3) (size := 1) W2 #[.int .i64 i] 1 hlo (by decide) rfl)
      have FB : Hid (Below w.heap.size w (W2.alloc (.cells #[.int .i64 i] 3))) := Lib.hid (below_new HB.out _)
      clear h1 h2 hq
      go_enter Tryz.func117, Tryz.ntmps117
      go_upto_region 1 with fail
      rw [← HW2.out]
      go_wp2_with (at_lookup; refine Go.wpList_lookup_own_ok_int _ rfl _ _ 87 rfl 9 3 .i64 lawStr Tryz.underlying87 Tryz.underlying3 (zeroInt _) b1 n1 D1 rfl o1 _ _ rfl kk1 ?_; intro c hat hwc; rw [H1.out]; obtain rfl := HC.out c hat)
      go_ret2
      exact ⟨_, rfl, FIN.out, FB.out⟩
  · rw [if_neg hz, if_neg hz]
    obtain ⟨e1, e2⟩ := full_facts _ hz
    obtain ⟨h1, -⟩ := k0 t.mod hz1
    have FIN := Lib.hid (own_nilN W2 w.heap.size)
    obtain ⟨q, hq⟩ : ∃ q, impHas m t.mod = q := ⟨_, rfl⟩
    rw [hq] at h1 ⊢
    have H1 := Lib.hid h1
    clear k0 k1 o1 kk1 hz x1 h1 hq
    go_enter Tryz.func117, Tryz.ntmps117
    go_upto_region 1 with fail
    rw [← HW2.out]
    go_wp2_with (at_lookup; refine Go.wpList_lookup_own_ok_int _ rfl _ _ 87 rfl 9 3 .i64 lawStr Tryz.underlying87 Tryz.underlying3 (zeroInt _) b0 n0 D0 rfl o0 _ _ rfl kk0 ?_; intro c hat hwc; rw [H1.out])
    go_ret2
    exact ⟨_, rfl, FIN.out, HB.out⟩

end Go.Proofs.YtkgmdbkcldojnaaGreatDoor

/- The walk of the reference's Copy. -/
namespace Go.Proofs.YtkgmdbkcldojnaaGreatDoor
open Go.RowKit
open M

/-- What stands when the names have been copied. -/
structure Cp1 (w : World) (t : Ty) (As : Option Addr) (n cs : Nat) (A5 : Option Addr) (c5 : Nat) (wr : World) : Prop where
  below : Below w.heap.size w wr
  box : wr.heap[w.heap.size]? = some (.cells #[.int .i64 t.kind, .string t.pkg, .int .i64 t.major, .string t.mod, .string t.name, .slice A5 t.names.length c5, .slice As n cs] 30 (0, 0))
  res : wr.heap[w.heap.size + 1]? = some (.cells #[.int .i64 0, .string ⟨#[]⟩, .int .i64 0, .string ⟨#[]⟩, .string ⟨#[]⟩, .slice none 0 0, .slice none 0 0] 30 (0, 0))
  own : wr.ownsRow (w.heap.size + 2) 9 1 (.slice A5 t.names.length c5) t.names.length (t.names.map Value.string)

theorem Cp1.start {w wr : World} {t : Ty} {As : Option Addr} {n cs : Nat} {A5 : Option Addr} {c5 : Nat} (h : Cp1 w t As n cs A5 c5 wr) (hs : ∀ (i : Nat) (s : ByteArray), t.names[i]? = some s → s.size ≤ 9223372036854775807) :
    Cp w t A5 c5 0 none 0 (wr.setCell ⟨w.heap.size, 6, none⟩ (.slice none 0 0)) := by
  have hown := ownsRow_setCell_below h.own (a := ⟨w.heap.size, 6, none⟩) (by show w.heap.size < w.heap.size + 2; omega) (.slice none 0 0)
  obtain ⟨-, A, c, e, hN⟩ := own_names hown hs
  simp at e
  obtain ⟨rfl, rfl⟩ := e
  refine ⟨h.below.setCell (Nat.le_refl _) _, ?_, ?_, hN _ (fun b hb e => ?_), fun _ => [.nilIface, .nilIface, .nilIface, .nilIface, .nilIface, .nilIface, .nilIface], fun _ => rfl, World.ownsRow_nil _ _ _ _, fun i s hi => by omega⟩
  · have := Joins.block_setCell (i := 6) h.box (.slice none 0 0)
    simpa using this
  · rw [Below.heap_setCell _ _ _ _ (by show w.heap.size + 1 ≠ w.heap.size; omega)]
    exact h.res
  · rcases e with e | e
    · omega
    · simp [Value.ownBlock] at e

/-- Behind the names' append, and the store. -/
theorem Cp1.made {w w4 : World} {t : Ty} {An As : Option Addr} {cn n cs : Nat} {A5 : Option Addr} {c5 : Nat}
    (hb : Below w.heap.size w w4) (hbox : w4.heap[w.heap.size]? = some (.cells #[.int .i64 t.kind, .string t.pkg, .int .i64 t.major, .string t.mod, .string t.name, .slice An t.names.length cn, .slice As n cs] 30 (0, 0)))
    (hres : w4.heap[w.heap.size + 1]? = some (.cells #[.int .i64 0, .string ⟨#[]⟩, .int .i64 0, .string ⟨#[]⟩, .string ⟨#[]⟩, .slice none 0 0, .slice none 0 0] 30 (0, 0)))
    (hown : w4.ownsRow (w.heap.size + 2) 9 1 (.slice A5 t.names.length c5) t.names.length (t.names.map Value.string)) :
    Cp1 w t As n cs A5 c5 (w4.setCell ⟨w.heap.size, 5, none⟩ (.slice A5 t.names.length c5)) := by
  refine ⟨hb.setCell (Nat.le_refl _) _, ?_, ?_, ownsRow_setCell_below hown (by show w.heap.size < w.heap.size + 2; omega) _⟩
  · have := Joins.block_setCell (i := 5) hbox (.slice A5 t.names.length c5)
    simpa using this
  · rw [Below.heap_setCell _ _ _ _ (by show w.heap.size + 1 ≠ w.heap.size; omega)]
    exact hres

/-- Where there are no names. -/
theorem Cp1.empty (w : World) {t : Ty} (As : Option Addr) (n cs : Nat) (h0 : t.names.length = 0) :
    Cp1 w t As n cs (some ⟨w.heap.size + 1 + 1, 0, none⟩) 0 (((w.alloc (.cells #[.int .i64 t.kind, .string t.pkg, .int .i64 t.major, .string t.mod, .string t.name, .slice (some ⟨w.heap.size + 1 + 1, 0, none⟩) 0 0, .slice As n cs] 30)).alloc (.cells #[.int .i64 0, .string ⟨#[]⟩, .int .i64 0, .string ⟨#[]⟩, .string ⟨#[]⟩, .slice none 0 0, .slice none 0 0] 30)).alloc (.cells #[] 9)) := by
  have e1 : w.heap.size + 1 = (w.alloc (.cells #[.int .i64 t.kind, .string t.pkg, .int .i64 t.major, .string t.mod, .string t.name, .slice (some ⟨w.heap.size + 1 + 1, 0, none⟩) 0 0, .slice As n cs] 30)).heap.size := by simp
  have e2 : w.heap.size + 1 + 1 = ((w.alloc (.cells #[.int .i64 t.kind, .string t.pkg, .int .i64 t.major, .string t.mod, .string t.name, .slice (some ⟨w.heap.size + 1 + 1, 0, none⟩) 0 0, .slice As n cs] 30)).alloc (.cells #[.int .i64 0, .string ⟨#[]⟩, .int .i64 0, .string ⟨#[]⟩, .string ⟨#[]⟩, .slice none 0 0, .slice none 0 0] 30)).heap.size := by simp
  refine ⟨below_new (below_new (below_new (Below.refl _ _) _) _) _, ?_, ?_, ?_⟩
  · rw [Lib.alloc_old _ _ _ (by simp; omega), Lib.alloc_old _ _ _ (by simp), h0]; exact heap_alloc_new w _
  · rw [Lib.alloc_old _ _ _ (by simp)]
    have := heap_alloc_new (w.alloc (.cells #[.int .i64 t.kind, .string t.pkg, .int .i64 t.major, .string t.mod, .string t.name, .slice (some ⟨w.heap.size + 1 + 1, 0, none⟩) 0 0, .slice As n cs] 30)) (.cells #[.int .i64 0, .string ⟨#[]⟩, .int .i64 0, .string ⟨#[]⟩, .string ⟨#[]⟩, .slice none 0 0, .slice none 0 0] 30)
    rw [← e1] at this
    exact this
  · have := World.ownsRow_lit (base := w.heap.size + 2) (e := 9) (size := 1) ((w.alloc (.cells #[.int .i64 t.kind, .string t.pkg, .int .i64 t.major, .string t.mod, .string t.name, .slice (some ⟨w.heap.size + 1 + 1, 0, none⟩) 0 0, .slice As n cs] 30)).alloc (.cells #[.int .i64 0, .string ⟨#[]⟩, .int .i64 0, .string ⟨#[]⟩, .string ⟨#[]⟩, .slice none 0 0, .slice none 0 0] 30)) #[] 0 (by rw [← e2]; omega) (by decide) rfl
    rw [← e2] at this
    rw [h0, List.length_eq_zero_iff.1 h0]
    exact this

set_option maxRecDepth 100000 in
set_option maxHeartbeats 4000000 in
theorem copy_any (N : Nat) : ∀ (t : Ty), many t ≤ N → many t ≤ 9000 → shortT t → ∀ (v : Value) (w : World), TyV w v t →
    Calls Tryz.prog 19 #[v] w fun e w' => ∃ l : List Value, e = .returned (.agg l.toArray) ∧ TyAt (strike (· < w.heap.size) w') l t ∧ Below w.heap.size w w' := by
  induction N with
  | zero => intro t h; have := many_pos t; omega
  | succ N ih =>
    intro t hN hM hSh v w hv
    obtain ⟨lv, rfl, hT⟩ := hv
    obtain ⟨An, cn, As, cs, rfl, zp, zm, za, hzn, hz, hNA, hS⟩ := hT.parts
    have HS := Lib.hid hS
    have HNA := Lib.hid hNA
    have hnl : t.names.length ≤ 200 := by
      cases t with | mk k p m d n ns ss => unfold shortT at hSh; exact hSh.1
    have HSS : Hid (∀ s, s ∈ t.subs → shortT s) := Lib.hid (by
      have key : ∀ l : List Ty, shortL l → ∀ s, s ∈ l → shortT s := by
        intro l
        induction l with
        | nil => intro _ s hs; cases hs
        | cons a r ih => 
          intro h s hs
          unfold shortL at h
          rcases List.mem_cons.1 hs with e | hs
          · rw [e]; exact h.1
          · exact ih h.2 s hs
      cases t with | mk k p m d n ns ss => unfold shortT at hSh; exact key ss hSh.2)
    have HNS : Hid (∀ (i : Nat) (s : ByteArray), t.names[i]? = some s → s.size ≤ 9223372036854775807) := Lib.hid (fun i s hs => by
      obtain ⟨g, o, -, -, -, h⟩ := hNA i s hs
      exact h)
    clear hT hS hNA hSh
    have hml : t.subs.length ≤ 9000 := by have := manyL_len t.subs; have := manyL_eq t; omega
    generalize hn : t.subs.length = n at hz hml
    have HN := Lib.hid hn
    clear hn
    obtain ⟨W3, hW3⟩ : ∃ W3, W3 = ((w.alloc (.cells #[.int .i64 t.kind, .string t.pkg, .int .i64 t.major, .string t.mod, .string t.name, .slice An t.names.length cn, .slice As n cs] 30)).alloc (.cells #[.int .i64 0, .string ⟨#[]⟩, .int .i64 0, .string ⟨#[]⟩, .string ⟨#[]⟩, .slice none 0 0, .slice none 0 0] 30)).alloc (.cells #[] 9) := ⟨_, rfl⟩
    have B3 : Hid (Below w.heap.size w W3) := Lib.hid (by rw [hW3]; exact below_new (below_new (below_new (Below.refl _ _) _) _) _)
    have X3 : Hid (W3.heap[w.heap.size]? = some (.cells #[.int .i64 t.kind, .string t.pkg, .int .i64 t.major, .string t.mod, .string t.name, .slice An t.names.length cn, .slice As n cs] 30 (0, 0))) := Lib.hid (by
      rw [hW3, Lib.alloc_old _ _ _ (by simp; omega), Lib.alloc_old _ _ _ (by simp)]; exact heap_alloc_new w _)
    have R3 : Hid (W3.heap[w.heap.size + 1]? = some (.cells #[.int .i64 0, .string ⟨#[]⟩, .int .i64 0, .string ⟨#[]⟩, .string ⟨#[]⟩, .slice none 0 0, .slice none 0 0] 30 (0, 0))) := Lib.hid (by
      rw [hW3, Lib.alloc_old _ _ _ (by simp)]
      have e : w.heap.size + 1 = (w.alloc (.cells #[.int .i64 t.kind, .string t.pkg, .int .i64 t.major, .string t.mod, .string t.name, .slice An t.names.length cn, .slice As n cs] 30)).heap.size := by simp
      rw [e]; exact heap_alloc_new _ _)
    have O3 : Hid (W3.ownsRow (w.heap.size + 2) 9 1 (.slice (some ⟨w.heap.size + 1 + 1, 0, none⟩) 0 0) 0 []) := Lib.hid (by
      rw [hW3]
      have e : w.heap.size + 1 + 1 = ((w.alloc (.cells #[.int .i64 t.kind, .string t.pkg, .int .i64 t.major, .string t.mod, .string t.name, .slice An t.names.length cn, .slice As n cs] 30)).alloc (.cells #[.int .i64 0, .string ⟨#[]⟩, .int .i64 0, .string ⟨#[]⟩, .string ⟨#[]⟩, .slice none 0 0, .slice none 0 0] 30)).heap.size := by simp
      have := World.ownsRow_lit (base := w.heap.size + 2) (e := 9) (size := 1) ((w.alloc (.cells #[.int .i64 t.kind, .string t.pkg, .int .i64 t.major, .string t.mod, .string t.name, .slice An t.names.length cn, .slice As n cs] 30)).alloc (.cells #[.int .i64 0, .string ⟨#[]⟩, .int .i64 0, .string ⟨#[]⟩, .string ⟨#[]⟩, .slice none 0 0, .slice none 0 0] 30)) #[] 0 (by rw [← e]; omega) (by decide) rfl
      rw [← e] at this
      exact this)
    have s3 : w.heap.size + 2 ≤ W3.heap.size := by have := (Array.getElem?_eq_some_iff.1 R3.out).1; omega
    have HW3 := Lib.hid hW3
    clear hW3
    obtain ⟨i0, hi, hz0, hz1, hz2⟩ := info_parts str_info
    go_enter Tryz.func19, Tryz.ntmps19
    go_upto_region 1 with fail
    go_cut [8] (fun s8 wx => ∃ (A5 : Option Addr) (c5 : Nat), Cp1 w t As n cs A5 c5 wx)
    case first =>
      cases An with
      | none =>
        have hn0 : t.names.length = 0 := by
          rcases Nat.eq_zero_or_pos t.names.length with h | h
          · exact h
          · obtain ⟨g, o, e, -⟩ := HNA.out 0 _ (List.getElem?_eq_getElem h)
            cases e
        have HE := Lib.hid (Cp1.empty w As n cs hn0)
        go_wp2_with fail
        go_meet
        exact ⟨_, _, HE.out⟩
      | some ad =>
        have own0 := O3.out
        rw [HW3.out] at own0
        have hnews : ∀ j u, (t.names.map Value.string)[j]? = some u → W3.cell? (ad.add j) = some u := by
          intro j u hj
          rw [List.getElem?_map] at hj
          obtain ⟨s, hs, rfl⟩ := Option.map_eq_some_iff.1 hj
          obtain ⟨g, o, e, hg, hc, -⟩ := HNA.out j s hs
          obtain rfl := Option.some.inj e
          rw [WideShapes.add_plain]
          exact (B3.out.cell (p := ⟨g, _, none⟩) hg).trans hc
        rw [HW3.out] at hnews
        have hone : ∀ u ∈ t.names.map Value.string, u.oneCell' = true := by
          intro u hu
          obtain ⟨s, -, rfl⟩ := List.mem_map.1 hu
          rfl
        have hbase := s3
        rw [HW3.out] at hbase
        go_wp2_with (at_builtin; refine wpList_append_own_at _ rfl _ _ 27 rfl (w.heap.size + 2) 9 i0 (.string ⟨#[]⟩) 1 16 Tryz.underlying27 hi hz0 hz1 hz2 rfl (by decide) _ 0 [] rfl own0 ad t.names.length cn (t.names.map Value.string) rfl ?c0 hnews hone ?c3 ?c4 hbase ?_)
        case c0 => simp
        case c3 => unfold maxLen; omega
        case c4 => omega
        intro v5 w4 hown hgrow _ hat
        rw [← HW3.out] at hgrow
        have hown2 : w4.ownsRow (w.heap.size + 2) 9 1 v5 t.names.length (t.names.map Value.string) := by first | exact hown | simpa using hown
        clear hown
        obtain ⟨-, A5, c5, rfl, -⟩ := own_names hown2 HNS.out
        have b4 : w4.heap[w.heap.size]? = _ := (hgrow.block w.heap.size (by omega) (by simp [Value.ownBlock]; omega)).trans X3.out
        have r4 : w4.heap[w.heap.size + 1]? = _ := (hgrow.block (w.heap.size + 1) (by omega) (by simp [Value.ownBlock])).trans R3.out
        have B4 : Below w.heap.size w w4 := B3.out.trans ⟨hgrow.os, hgrow.tape, hgrow.output, hgrow.size, fun b hb => hgrow.block b (by omega) (by simp [Value.ownBlock]; omega)⟩
        have M := Lib.hid (Cp1.made B4 b4 r4 hown2)
        have x5 : w4.cell? ⟨w.heap.size, 5, none⟩ = some (.slice (some ad) t.names.length cn) := Lib.cell_of_heap b4 5
        have f5 : w4.frozen? ⟨w.heap.size, 5, none⟩ = false := Lib.frozen_of_heap b4 5
        clear hgrow hown2 hat b4 r4 B4 hnews hbase own0
        go_wp2_with fail
        go_meet
        exact ⟨_, _, M.out⟩
    case rest =>
      obtain ⟨A5, c5, h1⟩ := hcut
      have x6 := Lib.cell_of_heap h1.box 6
      have f6 := Lib.frozen_of_heap h1.box 6
      simp at x6
      have START := Lib.hid (h1.start HNS.out)
      clear h1 B3 X3 R3 O3 HW3 HNS
      go_wp2_with fail
      clear x6 f6
      go_loopw [4] (fun i wr => ∃ (j : Nat) (A6 : Option Addr) (c6 : Nat), j ≤ n ∧ i = .int .i64 j ∧ Hid (Cp w t A5 c5 j A6 c6 wr)) (fun i _ => n - (intOf i).toNat)
      case atStart => exact ⟨0, none, 0, by omega, rfl, START⟩
      case round =>
        obtain ⟨j, A6, c6, hj, rfl, HC⟩ := hrel
        obtain ⟨wo, rfl⟩ : ∃ wo : World, wo = wr := ⟨_, rfl⟩
        have x6 := Lib.cell_of_heap HC.out.box 6
        have f6 := Lib.frozen_of_heap HC.out.box 6
        simp at x6
        have hkl : w.heap.size + 1 < wo.heap.size := (Array.getElem?_eq_some_iff.1 HC.out.res).1
        by_cases hlt : j < n
        · obtain ⟨s, hs⟩ : ∃ s, t.subs[j]? = some s := ⟨_, List.getElem?_eq_getElem (by rw [HN.out]; exact hlt)⟩
          obtain ⟨C, hC, hown6, hCs⟩ := HC.out.subs
          obtain ⟨g0, o0, v0, v1, v2, v3, v4, v5, v6, rfl, hg0, h0, h1, h2, h3, h4, h5, h6, hs7⟩ := HS.out.below HC.out.below j s hs
          obtain ⟨Am, cm, At, ct, rfl, rfl, rfl, rfl, rfl, rfl, rfl⟩ := hs7.seven
          have hsm := sub_many hs
          have IH := Lib.hid (fun (w' : World) (hw : Below wo.heap.size wo w') => ih s (by omega) (by omega) (HSS.out s (List.mem_of_getElem? hs)) (.agg #[.int .i64 s.kind, .string s.pkg, .int .i64 s.major, .string s.mod, .string s.name, .slice Am s.names.length cm, .slice At s.subs.length ct]) w' (TyV.below ⟨_, rfl, hs7⟩ hw))
          have hold : ∀ b, (Value.slice A6 j c6).ownBlock = some b → w.heap.size + 2 ≤ b ∧ b < wo.heap.size := fun b hb => by
            obtain ⟨h1, h2⟩ := hown6.lt b hb
            exact ⟨h1, h2⟩
          have HHS := Lib.hid hs
          have HHC := Lib.hid hC
          have HHCs := Lib.hid hCs
          have HOLD := Lib.hid hold
          have HOWN := Lib.hid hown6
          clear hs7 hs hC hCs hold hown6 hsm
          obtain ⟨i1, hi1, hy0, hy1, hy2⟩ := info_parts typ_info
          go_upto_block 1 with fail
          go_cut [4] (fun s4 wx => s4 = .int .i64 j ∧ ∃ (A6' : Option Addr) (c6' : Nat), Cp w t A5 c5 (j + 1) A6' c6' wx)
          case first =>
            have hk0 : w.heap.size < wo.heap.size := by omega
            go_wp2_with fail
            have F1 : ∀ (w1 : World) (oo : Obj), Below wo.heap.size wo w1 → (w1.alloc oo).ownsRow (w.heap.size + 2) 30 7 (.slice A6 j c6) j ((List.range j).map C).flatten := fun w1 oo hB => (own_keep HOWN.out hB).alloc oo
            have F2 : ∀ (w1 : World) (Ax : Option Addr) (cx : Nat) (Ay : Option Addr) (cy : Nat), ∀ (q : Nat) (u : Value), ([.int .i64 s.kind, .string s.pkg, .int .i64 s.major, .string s.mod, .string s.name, .slice Ax s.names.length cx, .slice Ay s.subs.length cy] : List Value)[q]? = some u → (w1.alloc (.cells #[.int .i64 s.kind, .string s.pkg, .int .i64 s.major, .string s.mod, .string s.name, .slice Ax s.names.length cx, .slice Ay s.subs.length cy] 30)).cell? ((⟨w1.heap.size, 0, none⟩ : Addr).add q) = some u := fun w1 Ax cx Ay cy q u hq => by
              rw [WideShapes.add_plain, Nat.zero_add, Lib.cell_of_heap (heap_alloc_new w1 _), ← hq, ← List.getElem?_toArray]
            have F3 : ∀ (Ax : Option Addr) (cx : Nat) (Ay : Option Addr) (cy : Nat), ∀ u ∈ ([.int .i64 s.kind, .string s.pkg, .int .i64 s.major, .string s.mod, .string s.name, .slice Ax s.names.length cx, .slice Ay s.subs.length cy] : List Value), u.oneCell' = true := fun Ax cx Ay cy u hu => by
              simp at hu
              rcases hu with rfl | rfl | rfl | rfl | rfl | rfl | rfl <;> rfl
            have F4 : ∀ (w1 : World) (oo : Obj), Below wo.heap.size wo w1 → w.heap.size + 2 ≤ (w1.alloc oo).heap.size := fun w1 oo hB => by
              have := hB.size
              have : (w1.alloc oo).heap.size = w1.heap.size + 1 := by simp
              omega
            have F5 : j + 1 ≤ maxLen := by unfold maxLen; omega
            have F6 : (j + 1) * 112 ≤ 140737488355328 := by omega
            have F7 : (Value.agg #[.int .i64 0, .string ⟨#[]⟩, .int .i64 0, .string ⟨#[]⟩, .string ⟨#[]⟩, .slice none 0 0, .slice none 0 0]).cells.size = 7 := by rfl
            have F8 : ∀ (w1 w2 : World) (oo : Obj), Below wo.heap.size wo w1 → (w1.alloc oo).grownBy w2 (Value.slice A6 j c6).ownBlock → w2.cell? ⟨w.heap.size, 6, none⟩ = some (.slice A6 j c6) ∧ w2.frozen? ⟨w.heap.size, 6, none⟩ = false := fun w1 w2 oo hB hgrow => by
              have e : w2.heap[w.heap.size]? = wo.heap[w.heap.size]? := by
                rw [hgrow.block w.heap.size (by have := hB.size; simp; omega) (fun e => by have := (HOLD.out _ e.symm).1; omega), Lib.alloc_old w1 oo _ (by have := hB.size; omega)]
                exact hB.block _ hk0
              rw [World.cell?_of_block (w := wo) (a := ⟨w.heap.size, 6, none⟩) e, World.frozen?_of_block (w := wo) (a := ⟨w.heap.size, 6, none⟩) e]
              exact ⟨x6, f6⟩
            go_region_law (first
              | (go_simp; go_at_call 19; refine (IH.out _ (Below.drew (Below.refl _ _))).mono ?_
                 rintro e w1 ⟨l1, rfl, hT1, hb1⟩
                 obtain ⟨Ax, cx, Ay, cy, rfl, -⟩ := hT1.parts
                 have hB : Below wo.heap.size wo w1 := (Below.drew (Below.refl _ _)).trans hb1
                 have y6 : w1.cell? ⟨w.heap.size, 6, none⟩ = some (.slice A6 j c6) := (hB.cell (p := ⟨w.heap.size, 6, none⟩) hk0).trans x6
                 have hw1 : w.heap.size < w1.heap.size := Nat.lt_of_lt_of_le hk0 hB.size)
              | (refine step_append_lies _ rfl (.tmp 20) (.tmp 26) 28 rfl (w.heap.size + 2) 30 i1 _ 7 112 Tryz.underlying28 hi1 hy0 hy1 hy2 F7 (Nat.zero_lt_succ 6) (.slice A6 j c6) j _ rfl (F1 w1 _ hB) ⟨w1.heap.size, 0, none⟩ 1 1 [.int .i64 s.kind, .string s.pkg, .int .i64 s.major, .string s.mod, .string s.name, .slice Ax s.names.length cx, .slice Ay s.subs.length cy] rfl rfl (F2 w1 Ax cx Ay cy) (F3 Ax cx Ay cy) Nat.one_pos F5 F6 (F4 w1 _ hB) _ rfl ?_
                 intro g cap w2 hown2 hgrow hat hlt2
                 have ST := Lib.hid (HC.out.step HHS.out hB hT1 rfl HHC.out HHCs.out hown2 hgrow hat HOLD.out)
                 obtain ⟨z6, e6⟩ := F8 w1 w2 _ hB hgrow))
            all_goals (go_wp2_with fail; go_meet; exact ⟨rfl, _, _, ST.out⟩)
          case rest =>
            obtain ⟨rfl, A6', c6', hC'⟩ := hcut
            have HC' := Lib.hid hC'
            clear hC' h0 h1 h2 h3 h4 h5 h6 x6 f6 IH
            go_wp2_with fail
            go_roundw
            case rel => exact ⟨j + 1, A6', c6', by omega, by go_num, HC'⟩
            case measure => simp [intOf]; omega
        · obtain rfl : j = n := by omega
          have y0 := Lib.cell_of_heap HC.out.box 0
          have y1 := Lib.cell_of_heap HC.out.box 1
          have y2 := Lib.cell_of_heap HC.out.box 2
          have y3 := Lib.cell_of_heap HC.out.box 3
          have y4 := Lib.cell_of_heap HC.out.box 4
          have y5 := Lib.cell_of_heap HC.out.box 5
          have r0 := Lib.cell_of_heap HC.out.res 0
          have r1 := Lib.cell_of_heap HC.out.res 1
          have r2 := Lib.cell_of_heap HC.out.res 2
          have r3 := Lib.cell_of_heap HC.out.res 3
          have r4 := Lib.cell_of_heap HC.out.res 4
          have r5 := Lib.cell_of_heap HC.out.res 5
          have r6 := Lib.cell_of_heap HC.out.res 6
          have q0 := Lib.frozen_of_heap HC.out.res 0
          have q1 := Lib.frozen_of_heap HC.out.res 1
          have q2 := Lib.frozen_of_heap HC.out.res 2
          have q3 := Lib.frozen_of_heap HC.out.res 3
          have q4 := Lib.frozen_of_heap HC.out.res 4
          have q5 := Lib.frozen_of_heap HC.out.res 5
          have q6 := Lib.frozen_of_heap HC.out.res 6
          simp at y0 y1 y2 y3 y4 y5 r0 r1 r2 r3 r4 r5 r6
          obtain ⟨W7, hW7⟩ : ∃ W7, W7 = (((((((wo.setCell ⟨w.heap.size + 1, 0, none⟩ (.int .i64 t.kind)).setCell ⟨w.heap.size + 1, 1, none⟩ (.string t.pkg)).setCell ⟨w.heap.size + 1, 2, none⟩ (.int .i64 t.major)).setCell ⟨w.heap.size + 1, 3, none⟩ (.string t.mod)).setCell ⟨w.heap.size + 1, 4, none⟩ (.string t.name)).setCell ⟨w.heap.size + 1, 5, none⟩ (.slice A5 t.names.length c5)).setCell ⟨w.heap.size + 1, 6, none⟩ (.slice A6 j c6)) := ⟨_, rfl⟩
          have hbk : W7.heap[w.heap.size + 1]? = some (.cells #[.int .i64 t.kind, .string t.pkg, .int .i64 t.major, .string t.mod, .string t.name, .slice A5 t.names.length c5, .slice A6 j c6] 30 (0, 0)) := by rw [hW7]; exact fill7 HC.out.res _ _ _ _ _ _ _
          have hot : ∀ c, c ≠ w.heap.size + 1 → W7.heap[c]? = wo.heap[c]? := fun c hc => by rw [hW7]; exact fill7_other hc _ _ _ _ _ _ _
          have hsz : W7.heap.size = wo.heap.size := by rw [hW7]; exact fill7_size _ _ _ _ _ _ _
          have DONE : TyAt (strike (· < w.heap.size + 2) wo) [.int .i64 t.kind, .string t.pkg, .int .i64 t.major, .string t.mod, .string t.name, .slice A5 t.names.length c5, .slice A6 j c6] t := by
            have hd := HC.out
            have e := HN.out
            subst e
            exact hd.done zp zm za hzn hz
          have T7 : Hid (TyAt (strike (· < w.heap.size) W7) [.int .i64 t.kind, .string t.pkg, .int .i64 t.major, .string t.mod, .string t.name, .slice A5 t.names.length c5, .slice A6 j c6] t) := Lib.hid (DONE.cells (by rw [strike_size, strike_size]; omega) (fun b o x hx => by
            obtain ⟨h1, h2⟩ := strike_cell.1 hx
            refine strike_cell.2 ⟨by omega, ?_⟩
            rw [World.cell?_of_block (w := wo) (a := ⟨b, o, none⟩) (hot b (by omega))]; exact h2))
          have B7 : Hid (Below w.heap.size w W7) := Lib.hid (by
            have hb := HC.out.below
            rw [hW7]
            exact ((((((hb.setCell (by simp) _).setCell (by simp) _).setCell (by simp) _).setCell (by simp) _).setCell (by simp) _).setCell (by simp) _).setCell (by simp) _)
          have C7 : Hid (∀ i v, ([.int .i64 t.kind, .string t.pkg, .int .i64 t.major, .string t.mod, .string t.name, .slice A5 t.names.length c5, .slice A6 j c6] : List Value)[i]? = some v → W7.cell? ⟨w.heap.size + 1, i, none⟩ = some v) := Lib.hid (fun i v hv => by
            rw [Lib.cell_of_heap hbk, ← hv, ← List.getElem?_toArray])
          have HW7 := Lib.hid hW7
          clear hW7 hbk hot hsz DONE
          go_wp2_with fail
          rw [← HW7.out]
          exact ret_agg1 (fn := Tryz.f19) (vs := [.int .i64 t.kind, .string t.pkg, .int .i64 t.major, .string t.mod, .string t.name, .slice A5 t.names.length c5, .slice A6 j c6]) (b := w.heap.size + 1) rfl rfl Tryz.underlying30 (by kernel_rfl) C7.out rfl ⟨_, rfl, T7.out, B7.out⟩

end Go.Proofs.YtkgmdbkcldojnaaGreatDoor

/- The walk of the reference's Copy of modules. -/
namespace Go.Proofs.YtkgmdbkcldojnaaGreatDoor
open Go.RowKit
open Go.Sort
open M

/-- Imports in cells of their own. -/
theorem row_imps {w : World} {lo c : Nat} {A : Option Addr} {xs : List Im} (hown : w.ownsRow lo 41 4 (.slice A xs.length c) xs.length (xs.map imL).flatten)
    (hz : ∀ x ∈ xs, x.pkg.size ≤ 9223372036854775807 ∧ x.mod.size ≤ 9223372036854775807 ∧ x.asn.size ≤ 9223372036854775807) : Row imR lo xs A c w :=
  ⟨xs.map imL, by simp, hown, fun i l x hl hx => by
    rw [List.getElem?_map, hx] at hl
    simp at hl
    exact ⟨hl.symm, hz x (List.mem_of_getElem? hx)⟩⟩
theorem imps_flat (xs : List Im) : (xs.map imL).flatten.length = xs.length * 4 := by
  induction xs with
  | nil => rfl
  | cons x xs ih => simp only [List.map_cons, List.flatten_cons, List.length_append, ih, List.length_cons]; simp [imL]; omega

/-- What stands when the imports have been copied. -/
structure Cq1 (w : World) (m : Mo) (Ai : Option Addr) (ci : Nat) (Ad : Option Addr) (nd cd : Nat) (wr : World) : Prop where
  below : Below w.heap.size w wr
  box : Mx w.heap.size m.name Ai m.imps.length ci Ad nd cd wr
  res : Mx (w.heap.size + 1) ⟨#[]⟩ none 0 0 none 0 0 wr
  row : Row imR (w.heap.size + 2) m.imps Ai ci wr
/-- What has been copied so far. -/
structure Cq (w : World) (l2 : Nat) (m : Mo) (Ai : Option Addr) (ci : Nat) (xs : List De) (Ad : Option Addr) (cd : Nat) (wr : World) : Prop where
  below : Below w.heap.size w wr
  box : Mx w.heap.size m.name Ai m.imps.length ci Ad xs.length cd wr
  res : Mx (w.heap.size + 1) ⟨#[]⟩ none 0 0 none 0 0 wr
  ims : RowIn imR (strike (fun b => b < w.heap.size + 2 ∨ l2 ≤ b) wr) Ai m.imps
  rows : Row deR l2 xs Ad cd wr
  lole : l2 ≤ wr.heap.size
theorem Cq1.made {w w4 : World} {m : Mo} {A0 Ai Ad : Option Addr} {n0 c0 ci nd cd : Nat} (hb : Below w.heap.size w w4) (hbox : Mx w.heap.size m.name A0 n0 c0 Ad nd cd w4) (hres : Mx (w.heap.size + 1) ⟨#[]⟩ none 0 0 none 0 0 w4) (hrow : Row imR (w.heap.size + 2) m.imps Ai ci w4) :
    Cq1 w m Ai ci Ad nd cd (w4.setCell ⟨w.heap.size, 1, none⟩ (.slice Ai m.imps.length ci)) := by
  have ot : ∀ b, b ≠ w.heap.size → (w4.setCell ⟨w.heap.size, 1, none⟩ (.slice Ai m.imps.length ci)).heap[b]? = w4.heap[b]? := fun b h => Below.heap_setCell _ _ _ _ (by show b ≠ w.heap.size; exact h)
  refine ⟨hb.setCell (Nat.le_refl _) _, ?_, (ot _ (by omega)).trans hres, hrow.keep (by simp) (fun b h _ => ot b (by omega))⟩
  have := Joins.block_setCell (i := 1) hbox (.slice Ai m.imps.length ci)
  simpa [Mx] using this
theorem Cq1.empty (w : World) (m : Mo) (Ad : Option Addr) (nd cd : Nat) (h0 : m.imps = []) :
    Cq1 w m (some ⟨w.heap.size + 1 + 1, 0, none⟩) 0 Ad nd cd (((w.alloc (.cells #[.string m.name, .slice (some ⟨w.heap.size + 1 + 1, 0, none⟩) 0 0, .slice Ad nd cd] 25)).alloc (.cells #[.string ⟨#[]⟩, .slice none 0 0, .slice none 0 0] 25)).alloc (.cells #[] 41)) := by
  have e1 : (w.alloc (.cells #[.string m.name, .slice (some ⟨w.heap.size + 1 + 1, 0, none⟩) 0 0, .slice Ad nd cd] 25)).heap.size = w.heap.size + 1 := by simp
  have e2 : ((w.alloc (.cells #[.string m.name, .slice (some ⟨w.heap.size + 1 + 1, 0, none⟩) 0 0, .slice Ad nd cd] 25)).alloc (.cells #[.string ⟨#[]⟩, .slice none 0 0, .slice none 0 0] 25)).heap.size = w.heap.size + 1 + 1 := by simp
  have hl : m.imps.length = 0 := by rw [h0]; rfl
  refine ⟨below_new (below_new (below_new (Below.refl _ _) _) _) _, ?_, ?_, row_imps ?_ (by rw [h0]; intro x hx; cases hx)⟩
  · unfold Mx
    rw [hl, Lib.alloc_old _ _ _ (by rw [e2]; omega), Lib.alloc_old _ _ _ (by rw [e1]; omega)]; exact heap_alloc_new w _
  · unfold Mx
    rw [Lib.alloc_old _ _ _ (by rw [e2]; omega)]
    have := heap_alloc_new (w.alloc (.cells #[.string m.name, .slice (some ⟨w.heap.size + 1 + 1, 0, none⟩) 0 0, .slice Ad nd cd] 25)) (.cells #[.string ⟨#[]⟩, .slice none 0 0, .slice none 0 0] 25)
    rw [e1] at this
    exact this
  · have := World.ownsRow_lit (base := w.heap.size + 2) (e := 41) (size := 4) ((w.alloc (.cells #[.string m.name, .slice (some ⟨w.heap.size + 1 + 1, 0, none⟩) 0 0, .slice Ad nd cd] 25)).alloc (.cells #[.string ⟨#[]⟩, .slice none 0 0, .slice none 0 0] 25)) #[] 0 (by rw [e2]; omega) (by decide) rfl
    rw [e2] at this
    rw [h0]
    exact this
theorem Cq1.start {w wr : World} {m : Mo} {Ai Ad : Option Addr} {ci nd cd : Nat} (h : Cq1 w m Ai ci Ad nd cd wr) : Cq w wr.heap.size m Ai ci [] none 0 (wr.setCell ⟨w.heap.size, 2, none⟩ (.slice none 0 0)) := by
  have ot : ∀ b, b ≠ w.heap.size → (wr.setCell ⟨w.heap.size, 2, none⟩ (.slice none 0 0)).heap[b]? = wr.heap[b]? := fun b h => Below.heap_setCell _ _ _ _ (by show b ≠ w.heap.size; exact h)
  refine ⟨h.below.setCell (Nat.le_refl _) _, ?_, (ot _ (by omega)).trans h.res, (h.row.done (Nat.le_refl _)).move (by simp) (fun b hb hS => ⟨by omega, ot b (by omega)⟩), Row.start _ _ _, by simp⟩
  have := Joins.block_setCell (i := 2) h.box (.slice none 0 0)
  simpa [Mx] using this

theorem Cq1.start' {w wr : World} {m : Mo} {Ai Ad : Option Addr} {ci nd cd : Nat} (h : Cq1 w m Ai ci Ad nd cd wr) : ∃ l2, w.heap.size + 2 ≤ l2 ∧ Hid (Cq w l2 m Ai ci [] none 0 (wr.setCell ⟨w.heap.size, 2, none⟩ (.slice none 0 0))) :=
  ⟨_, (Array.getElem?_eq_some_iff.1 h.res).1, Lib.hid h.start⟩
theorem own_slice {w : World} {base : Nat} {e : TypeId} {z : Nat} {v : Value} {n : Nat} {xs : List Value} (h : w.ownsRow base e z v n xs) : ∃ A c, v = .slice A n c := by
  rcases h.2 with ⟨rfl, h0⟩ | ⟨g, cap, cur, rfl, -⟩
  · exact ⟨none, 0, by rw [h0]⟩
  · exact ⟨_, _, rfl⟩
theorem below_cells7 {w a : World} {n : Nat} (h : Below n w a) {l : List Value} (hl : l.length = 7) {g : Nat} (hg : n ≤ g) : Below n w (a.setCells g 2 l) := by
  obtain ⟨v0, v1, v2, v3, v4, v5, v6, rfl⟩ := list7 l hl
  rw [setCells7]
  exact ((((((h.setCell hg _).setCell hg _).setCell hg _).setCell hg _).setCell hg _).setCell hg _).setCell hg _
/-- A world that has what lay. -/
theorem Cq.keep {w wo wa : World} {l2 : Nat} {m : Mo} {Ai : Option Addr} {ci : Nat} {xs : List De} {Ad : Option Addr} {cd : Nat} (h : Cq w l2 m Ai ci xs Ad cd wo) (hb : Below wo.heap.size wo wa) : Cq w l2 m Ai ci xs Ad cd wa := by
  have h0 := (Array.getElem?_eq_some_iff.1 h.box).1
  have h1 := (Array.getElem?_eq_some_iff.1 h.res).1
  exact ⟨below_over h.below hb, (hb.block _ h0).trans h.box, (hb.block _ h1).trans h.res, h.ims.move hb.size (fun b hlt hS => ⟨hS, hb.block b hlt⟩), h.rows.keep hb.size (fun b _ hlt => hb.block b hlt), Nat.le_trans h.lole hb.size⟩

end Go.Proofs.YtkgmdbkcldojnaaGreatDoor
