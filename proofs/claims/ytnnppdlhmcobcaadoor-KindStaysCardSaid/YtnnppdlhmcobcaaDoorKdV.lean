/-
  Walks of package kind's writers: the texts of types that may be, into a builder.
-/
import Derived.Test.YtnnppdlhmcobcaaDoorTyX
import Derived.Test.YtnnppdlhmcobcaaDoorTyT
import Derived.Test.YtnnppdlhmcobcaaDoorKdC
import Derived.Test.YtnnppdlhmcobcaaDoorBldW
import Derived.Test.YtnnppdlhmcobcaaDoorRgL
import Derived.Test.YtnnppdlhmcobcaaDoorIto
namespace Go.Proofs.YtnnppdlhmcobcaaDoor
open Go.RowKit
open Go.Sort
open M

theorem ownsRow_below {w w' : World} {B : Nat} {e : TypeId} {z : Nat} {v : Value} {n : Nat} {xs : List Value} (h : w.ownsRow B e z v n xs) (hb : Below w.heap.size w w') : w'.ownsRow B e z v n xs := by
  refine ⟨h.1, ?_⟩
  rcases h.2 with h | ⟨g, cap, cur, hv, hB, hg, rest⟩
  · exact .inl h
  · exact .inr ⟨g, cap, cur, hv, hB, (hb.block g (Array.getElem?_eq_some_iff.1 hg).1).trans hg, rest⟩
theorem builder_below {T e : TypeId} {B b : Nat} {p : Value} {bs : List Value} {w w' : World} (h : Lib.BuilderAt T e B b p bs w) (hb : Below w.heap.size w w') : Lib.BuilderAt T e B b p bs w' := by
  have hlt := h.lt
  obtain ⟨hB, v, hbk, hown, hne⟩ := h
  exact ⟨hB, v, (hb.block b hlt).trans hbk, ownsRow_below hown hb, hne⟩

/-- The builder at b holds these bytes; of what was there ahead, and is no row of bytes, nothing has turned. -/
def Wr (B b : Nat) (w0 : World) (l : List UInt8) (w : World) : Prop :=
  Lib.IsBuilder 41 5 B b (Lib.byteCells l) w ∧ Below B w0 w ∧ Lib.OthersKept 5 (some b) w0 w
theorem Wr.lt {B b : Nat} {w0 w : World} {l : List UInt8} (h : Wr B b w0 l w) : b < w.heap.size := h.1.elim (fun h => h.lt) (fun h => h.lt)
theorem Wr.le {B b : Nat} {w0 w : World} {l : List UInt8} (h : Wr B b w0 l w) : B ≤ b := h.1.elim (fun h => h.1) (fun h => h.1)
theorem Wr.alloc {B b : Nat} {w0 w : World} {l : List UInt8} (h : Wr B b w0 l w) (o : Obj) : Wr B b w0 l (w.alloc o) :=
  ⟨isBld_alloc h.1 o, h.2.1.alloc (by have := h.lt; have := h.le; omega) o, h.2.2.alloc o⟩
theorem Wr.below {B b : Nat} {w0 w w' : World} {l : List UInt8} (h : Wr B b w0 l w) (hb : Below w.heap.size w w') : Wr B b w0 l w' :=
  ⟨h.1.elim (fun h => .inl (builder_below h hb)) (fun h => .inr (builder_below h hb)), h.2.1.trans (hb.mono (by have := h.lt; have := h.le; omega)),
    fun k o hk hne ho => by
      have h1 := h.2.2 k o hk hne ho
      exact (hb.block k (Array.getElem?_eq_some_iff.1 h1).1).trans h1⟩
theorem Wr.base {B b : Nat} {w0 w : World} {l : List UInt8} (h : Wr B b w0 l w) : Wr B b w l w := ⟨h.1, Below.refl _ _, Lib.OthersKept.refl _ _ _⟩
theorem Wr.over {B b : Nat} {w0 w w' : World} {l l' : List UInt8} (h : Wr B b w0 l w) (h' : Wr B b w l' w') : Wr B b w0 l' w' := ⟨h'.1, h.2.1.trans h'.2.1, h.2.2.trans h'.2.2⟩
theorem Wr.cell {B b : Nat} {w0 w : World} {l : List UInt8} (h : Wr B b w0 l w) {k : Nat} {cs : Array Value} (hk : w0.heap[k]? = some (.cells cs 25 (0, 0))) (hne : k ≠ b) (i : Nat) : w.cell? ⟨k, i, none⟩ = cs[i]? :=
  kept_cell h.2.2 hk hne (by decide) i
theorem Wr.eq {B b : Nat} {w0 w : World} {l l' : List UInt8} (h : Wr B b w0 l w) (e : l = l') : Wr B b w0 l' w := e ▸ h

theorem wr_str {B b : Nat} {w0 w : World} {l : List UInt8} (h : Wr B b w0 l w) (s : ByteArray) (hl : l.length + s.size ≤ 4000000) :
    Calls Tryd.prog 30 #[.pointer (some ⟨b, 0, none⟩), .string s] w fun e w' => e = .returned (.tuple #[.int .i64 s.size, .nilIface]) ∧ Wr B b w0 (l ++ s.data.toList) w' := by
  refine (writeString_any B b _ s w h.1 (by rw [Lib.byteCells_length]; omega) (by have := h.lt; have := h.le; omega)).mono ?_
  rintro e w' ⟨rfl, h1, hb, hk⟩
  refine ⟨rfl, .inr ?_, h.2.1.trans hb, h.2.2.trans hk⟩
  rw [Lib.strCells_eq, ← Lib.byteCells_append] at h1
  exact h1

theorem z46 : (⟨#[46]⟩ : ByteArray).size = 1 := rfl
theorem z58 : (⟨#[58, 32]⟩ : ByteArray).size = 2 := rfl
theorem z44 : (⟨#[44, 32]⟩ : ByteArray).size = 2 := rfl
theorem len_app (l : List UInt8) (s : ByteArray) : (l ++ s.data.toList).length = l.length + s.size := by rw [List.length_append, len_size]
/-- What a call of write is to do. -/
def WriteOk (s : Ty) : Prop := ∀ (B b : Nat) (v : Value) (W w0 w : World) (l : List UInt8), TyV W v s → Below W.heap.size W w0 → W.heap.size ≤ B → Pow W → Wr B b w0 l w → l.length + (textT s).length ≤ 4000000 →
  Calls Tryd.prog 22 #[.pointer (some ⟨b, 0, none⟩), v] w fun e w' => e = .returned (.tuple #[]) ∧ Wr B b w0 (l ++ textT s) w'

theorem row_step (L : List (List UInt8)) (ns : List ByteArray) (k : Nat) : rowOf L ns (k + 1) = (if 0 < k then rowOf L ns k ++ [44, 32] else rowOf L ns k) ++ (if 0 < ns.length then (nameAt ns k).data.toList ++ [58, 32] else []) ++ L.getD k [] := rfl
theorem row_step0 (L : List (List UInt8)) (k : Nat) : rowOf L [] (k + 1) = (if 0 < k then rowOf L [] k ++ [44, 32] else rowOf L [] k) ++ L.getD k [] := by
  have e : (if 0 < ([] : List ByteArray).length then (nameAt [] k).data.toList ++ [58, 32] else []) = ([] : List UInt8) := if_neg (Nat.lt_irrefl 0)
  rw [row_step, e, List.append_nil]
theorem row_mono (L : List (List UInt8)) (ns : List ByteArray) {k : Nat} : ∀ m, k ≤ m → (rowOf L ns k).length ≤ (rowOf L ns m).length := by
  intro m h
  induction m with
  | zero => obtain rfl : k = 0 := by omega
            exact Nat.le_refl _
  | succ m ih =>
    rcases Nat.eq_or_lt_of_le h with e | e
    · rw [e]; exact Nat.le_refl _
    · refine Nat.le_trans (ih (by omega)) ?_
      rw [row_step]
      split <;> simp only [List.length_append] <;> omega

set_option maxRecDepth 100000 in
set_option maxHeartbeats 4000000 in
theorem writeLocal_any (t : Ty) (h8 : ownOk t = true) (hk : t.kind = 8) (B b : Nat) (v : Value) (W w0 w : World) (l : List UInt8) (hv : TyV W v t) (hW : Below W.heap.size W w0) (hWB : W.heap.size ≤ B) (hw : Wr B b w0 l w) (hl : l.length + (textT t).length ≤ 4000000) :
    Calls Tryd.prog 33 #[.pointer (some ⟨b, 0, none⟩), v] w fun e w' => e = .returned (.tuple #[]) ∧ Wr B b w0 (l ++ textT t) w' := by
  have hm : t.mod.size ≤ 20 ∧ t.name.size ≤ 20 := by
    unfold ownOk at h8
    simp only [Bool.and_eq_true] at h8
    have h := h8.2
    unfold shapeOk at h
    rw [hk] at h
    simp [emptyB] at h
    have hz8 : t.mod.size ≤ 20 := by
      rcases h.2 with h | h
      · exact small_len h
      · rw [h]; exact Nat.zero_le _
    exact ⟨hz8, great_len h.1.2⟩
  obtain ⟨z1, z2⟩ := hm
  have HV := Lib.hid hv
  obtain ⟨lv, rfl, hT⟩ := hv
  obtain ⟨An, cn, As, cs, rfl, zp, zm, za, hzn, hz, hNA, hS⟩ := hT.parts
  have HCAP := Lib.hid hT.cap
  have HS := Lib.hid hS
  have HNA := Lib.hid hNA
  have HLT := Lib.hid (textsT_len t.subs)
  have hbw := hw.lt
  obtain ⟨wb, hwb⟩ : ∃ wb, wb = w.alloc (.cells #[.int .i64 t.kind, .string t.pkg, .int .i64 t.major, .string t.mod, .string t.name, .slice An t.names.length cn, .slice As t.subs.length cs] 25) := ⟨_, rfl⟩
  have HA : Hid (Wr B b w0 l wb) := Lib.hid (by rw [hwb]; exact hw.alloc _)
  have H0 := Lib.hid HA.out.base
  have HK : Hid (wb.heap[w.heap.size]? = some (.cells #[.int .i64 t.kind, .string t.pkg, .int .i64 t.major, .string t.mod, .string t.name, .slice An t.names.length cn, .slice As t.subs.length cs] 25 (0, 0))) := Lib.hid (by rw [hwb]; exact heap_alloc_new w _)
  have hne : w.heap.size ≠ b := by omega
  have HWB := Lib.hid hwb
  have HWw : Hid (Below W.heap.size W wb) := Lib.hid (hW.trans (HA.out.2.1.mono hWB))
  clear hT hS hNA hW hwb hw
  have n1 : ¬ (t.mod.size + 1 > 9223372036854775807) := by omega
  by_cases hz : t.mod.size = 0
  · obtain ⟨x1, y1⟩ := empty_facts _ hz
    have HT : Hid (textT t = t.name.data.toList) := Lib.hid (by rw [textT_eq, hk]; simp [kindText, hz])
    have hl2 : l.length + t.name.size ≤ 4000000 := by have := HT.out; rw [this, len_size] at hl; exact hl
    clear hz hk
    go_enter Tryd.func33, Tryd.ntmps33
    go_wp2_with fail
    rw [← HWB.out]
    refine (wr_str H0.out t.name hl2).mono ?_; rintro e w1 ⟨rfl, g1⟩
    go_wp2_with fail
    go_end0
    exact ⟨rfl, (HA.out.over g1).eq (by rw [HT.out])⟩
  · obtain ⟨x1, y1⟩ := full_facts _ hz
    have HT : Hid (textT t = t.mod.data.toList ++ [46] ++ t.name.data.toList) := Lib.hid (by rw [textT_eq, hk]; simp [kindText, hz])
    have hl2 : l.length + t.mod.size + 1 + t.name.size ≤ 4000000 := by
      have := HT.out; rw [this] at hl; simp only [List.length_append, List.length_cons, List.length_nil, len_size] at hl; omega
    clear hz hk
    go_enter Tryd.func33, Tryd.ntmps33
    go_wp2_with fail
    rw [← HWB.out]
    refine (wr_str H0.out _ ?_).mono ?_
    · rw [ByteArray.size_append, z46]; omega
    rintro e w1 ⟨rfl, g1⟩
    have c4 := g1.cell HK.out hne 4
    simp at c4
    have g1l : (l ++ (t.mod ++ (⟨#[46]⟩ : ByteArray)).data.toList).length + t.name.size ≤ 4000000 := by
      rw [List.length_append, len_size, ByteArray.size_append, z46]; omega
    go_wp2_with fail
    refine (wr_str g1 _ ?_).mono ?_
    · exact g1l
    rintro e w2 ⟨rfl, g2⟩
    go_wp2_with fail
    go_end0
    exact ⟨rfl, (HA.out.over g2).eq (by rw [HT.out]; simp)⟩

end Go.Proofs.YtnnppdlhmcobcaaDoor
