/-
  Several texts in one:  · 
-/
import Derived.Test.YtcdmgcgjonndpaaK12
import Derived.Deep.DeepCutAuto
/-  -/
namespace Go.Proofs.Ytcdmgcgjonndpaa
open Go Go.RowKit Go.Shelf
open Go.Sort
open M
def HoldsU (w : World) (lo hi : Nat) (A : Option Addr) (ss : List (List UInt8)) : Prop := ss = [] ∨ ∃ g, A = some ⟨g, 0, none⟩ ∧ lo ≤ g ∧ g < hi ∧ g < w.heap.size ∧ Holds encStr w g 0 ss.toArray
theorem HoldsU.keep {w w' : World} {lo hi : Nat} {A : Option Addr} {ss : List (List UInt8)} (h : HoldsU w lo hi A ss) (hb : Below w.heap.size w w') : HoldsU w' lo hi A ss := by
  rcases h with h | ⟨g, h1, h2, h3, h4, h5⟩
  · exact .inl h
  · refine .inr ⟨g, h1, h2, h3, Nat.lt_of_lt_of_le h4 hb.size, fun j hj => ?_⟩
    obtain ⟨k1, k2⟩ := h5 j hj
    exact ⟨(hb.cell (p := ⟨g, _, none⟩) h4).trans k1, (World.frozen?_of_block (a := ⟨g, 0 + j, none⟩) (hb.block g h4)).trans k2⟩
theorem OwnU.slice {w : World} {lo : Nat} {v : Value} {l : List ByteArray} (h : OwnU w lo v l) : ∃ A c, v = .slice A l.length c := by
  rcases h.2 with ⟨rfl, h0⟩ | ⟨g, cap, cur, rfl, -⟩
  · exact ⟨none, 0, by rw [h0]⟩
  · exact ⟨_, _, rfl⟩
theorem OwnU.holds {w : World} {lo : Nat} {A : Option Addr} {c : Nat} {l : List ByteArray} (h : OwnU w lo (.slice A l.length c) l) : l.length ≤ c ∧ HoldsU w lo w.heap.size A (l.map (·.data.toList)) := by
  rcases h.2 with ⟨e, h0⟩ | ⟨g, cap, cur, hv, hB, hg, hnc, hcm, hcs, htake⟩
  · have hl0 : l = [] := List.length_eq_zero_iff.1 (by simpa using h0)
    subst hl0
    exact ⟨by simp, .inl rfl⟩
  · cases hv
    refine ⟨hnc, .inr ⟨g, rfl, hB, (Array.getElem?_eq_some_iff.1 hg).1, (Array.getElem?_eq_some_iff.1 hg).1, fun j hj => ⟨?_, Lib.frozen_of_heap hg _⟩⟩⟩
    simp at hj
    rw [Lib.cell_of_heap hg, ← Array.getElem?_toList]
    have e : (cur.toList.take (l.length * 1))[0 + j]? = some (.string l[j]) := by rw [htake]; simp [hj]
    rw [List.getElem?_take] at e
    split at e
    · rw [e, getElem!_pos _ _ (by simpa using hj)]; simp [encStr]
    · cases e
theorem put_low {enc : List UInt8 → Value} {w : World} {g n : Nat} {d : Array (List UInt8)} {os : Array Obj} {m : Nat} (h1 : m ≤ g) (h2 : m ≤ w.heap.size) : Below m w (grow (putRow enc (Sort.ahead w n) g 0 d) os) := by
  refine ⟨rfl, rfl, rfl, by simp [grow, ahead], fun k hk => ?_⟩
  have hk2 : k < (putRow enc (Sort.ahead w n) g 0 d).heap.size := by simp [ahead]; omega
  show (grow (putRow enc (Sort.ahead w n) g 0 d) os).heap[k]? = _
  simp only [grow]
  rw [Array.getElem?_append_left hk2]
  simp only [putRow, mapBlock, ahead, Array.getElem?_modify]
  rw [if_neg (by omega)]
  rfl
theorem sortU_any (A : Option Addr) (c lo : Nat) (l : List ByteArray) (w : World) (h : OwnU w lo (.slice A l.length c) l) (hl : l.length ≤ 1000000) :
    Calls Try.prog 51 #[.slice A l.length c] w fun e w' => e = .returned (.tuple #[]) ∧ HoldsU w' lo w'.heap.size A (ordU l) ∧ ∀ m, m ≤ lo → m ≤ w.heap.size → Below m w w' := by
  rcases h.holds.2 with e | ⟨g, rfl, hlo, -, hlt, hH⟩
  · have hl0 : l = [] := by simpa using e
    subst hl0
    refine (Try.slices_Sort_string_none A c w).mono ?_
    rintro e w' ⟨rfl, rfl⟩
    exact ⟨rfl, .inl (by simp [ordU]), fun n _ _ => Below.refl _ _⟩
  · have C := Try.slices_Sort_string g 0 c (l.map (·.data.toList)) w hH hlt (by simp; omega)
    rw [List.length_map] at C
    refine C.mono ?_
    rintro e w' ⟨rfl, n, os, rfl⟩
    have hsz : (ordU l).toArray.size = (l.map fun x : ByteArray => x.data.toList).toArray.size := by simp [ordU_len]
    have hH2 : Holds encStr (putRow encStr (Sort.ahead w n) g 0 (ordU l).toArray) g 0 (ordU l).toArray := holds_putRow encStr (Sort.ahead w n) g 0 _ _ (holds_ahead encStr w n g 0 _ hH) hsz
    have hk2 : g < (putRow encStr (Sort.ahead w n) g 0 (ordU l).toArray).heap.size := by simpa [ahead] using hlt
    exact ⟨rfl, .inr ⟨g, rfl, hlo, by simp [grow, ahead]; omega, by simp [grow, ahead]; omega, holds_grow encStr _ os g 0 _ hk2 hH2⟩, fun m h1 h2 => put_low (by omega) h2⟩
theorem compU_any (A : Option Addr) (c lo hi : Nat) (l : List ByteArray) (w : World) (h : HoldsU w lo hi A (ordU l)) (hc : l.length ≤ c) (hl : l.length ≤ 1000000) (hs : ∀ s ∈ l, s.size ≤ 9223372036854775807) :
    Calls Try.prog 52 #[.slice A l.length c] w fun e w' => e = .returned (.slice A (uniN l).length c) ∧ NamesAt (strike (fun k => k < lo ∨ hi ≤ k) w') A (uniN l) ∧ (∀ k, hi ≤ k → k < w.heap.size → w'.heap[k]? = w.heap[k]?) ∧ ∀ m, m ≤ lo → m ≤ w.heap.size → Below m w w' := by
  rcases h with e | ⟨g, rfl, hlo, hhi, hlt, hH⟩
  · have hl0 : l.length = 0 := by rw [← ordU_len, e]; rfl
    have hl1 : l = [] := List.length_eq_zero_iff.1 hl0
    subst hl1
    refine (Try.slices_Compact_string_empty A c w).mono ?_
    rintro e w' ⟨rfl, rfl⟩
    have e0 : uniN [] = [] := by
      cases hu : uniN [] with
      | nil => rfl
      | cons a r => exact absurd ((uniN_mem [] a).1 (by rw [hu]; exact List.mem_cons_self)) (by simp)
    rw [e0]
    exact ⟨rfl, fun i s h => by simp at h, fun _ _ _ => rfl, fun n _ _ => Below.refl _ _⟩
  · have C := Try.slices_Compact_string g 0 c (ordU l) w hH (by rw [ordU_len]; omega) (by rw [ordU_len]; exact hc)
    rw [ordU_len] at C
    refine C.mono ?_
    rintro e w' ⟨rfl, q, rfl⟩
    have hle := uniS_le l
    have hsz : (Lib.compact (ordU l) ++ List.replicate (l.length - (Lib.compact (ordU l)).length) []).toArray.size = (ordU l).toArray.size := by
      have : (Lib.compact (ordU l)).length ≤ l.length := hle
      simp [ordU_len]
      omega
    refine ⟨by rw [uniN_len]; rfl, fun i s hi' => ?_, fun k hk1 hk2 => ?_, fun m h1 h2 => ?_⟩
    · have hmem := (uniN_mem l s).1 (List.mem_of_getElem? hi')
      have hil := (List.getElem?_eq_some_iff.1 hi').1
      rw [uniN_len] at hil
      have hx : (uniS l)[i]? = some (uniS l)[i] := List.getElem?_eq_getElem hil
      have hsx : s = ⟨(uniS l)[i].toArray⟩ := by
        unfold uniN at hi'
        rw [List.getElem?_map, hx] at hi'
        simpa using hi'.symm
      refine ⟨g, 0, rfl, by rw [strike_size]; simpa [ahead] using hlt, strike_cell.2 ⟨by rintro (e | e) <;> omega, ?_⟩, hs s hmem⟩
      have hi2 : i < (Lib.compact (ordU l) ++ List.replicate (l.length - (Lib.compact (ordU l)).length) []).toArray.size := by
        have : i < (Lib.compact (ordU l)).length := hil
        simp
        omega
      have g1 : ∀ (X : Array (List UInt8)) (h : i < X.size), X[i]! = X[i]'h := fun X h => getElem!_pos X i h
      rw [cell?_putRow encStr (Sort.ahead w q) g 0 (ordU l).toArray _ (holds_ahead encStr w q g 0 _ hH) hsz i hi2, g1 _ hi2, hsx]
      have hil' : i < (Lib.compact (ordU l)).length := hil
      have : (Lib.compact (ordU l) ++ List.replicate (l.length - (Lib.compact (ordU l)).length) []).toArray[i]'hi2 = (Lib.compact (ordU l))[i]'hil' := by
        rw [List.getElem_toArray, List.getElem_append_left hil']
      rw [this]; rfl
    · simp only [putRow, mapBlock, ahead, Array.getElem?_modify]
      rw [if_neg (by omega)]
      rfl
    · have e := put_low (enc := encStr) (w := w) (n := q) (d := (Lib.compact (ordU l) ++ List.replicate (l.length - (Lib.compact (ordU l)).length) []).toArray) (os := #[]) (show m ≤ g by omega) h2
      rwa [grow_empty] at e
end Go.Proofs.Ytcdmgcgjonndpaa

/-  -/
namespace Go.Proofs.Ytcdmgcgjonndpaa
open Go Go.RowKit Go.Shelf
open Go.Sort
open M
structure UnI (w0 w w5 : World) (kd : Int) (A5 : Option Addr) (nn c5 : Nat) (xs : List Ty) (A6 : Option Addr) (c6 bx : Nat) (wr : World) : Prop where
 below : Below w.heap.size w wr
 low : ∀ k, k < w5.heap.size → k ≠ bx → wr.heap[k]? = w5.heap[k]?
 size : w5.heap.size ≤ wr.heap.size
 box : wr.heap[bx]? = some (.cells #[.int .i64 kd, .string ⟨#[]⟩, .int .i64 0, .string ⟨#[]⟩, .string ⟨#[]⟩, .slice A5 nn c5, .slice A6 xs.length c6] 25 (0, 0))
 rows : RowB tR (fun k => w0.heap.size ≤ k ∧ k < w5.heap.size) w5.heap.size xs A6 c6 wr
theorem UnI.keep {w0 w w5 wr wr' : World} {kd : Int} {A5 : Option Addr} {nn c5 : Nat} {xs : List Ty} {A6 : Option Addr} {c6 bx : Nat} (h : UnI w0 w w5 kd A5 nn c5 xs A6 c6 bx wr) (hbx : bx < w5.heap.size) (hb : Below wr.heap.size wr wr') : UnI w0 w w5 kd A5 nn c5 xs A6 c6 bx wr' :=
 ⟨below_over h.below hb, fun k hk hne => (hb.block _ (by have := h.size; omega)).trans (h.low k hk hne), Nat.le_trans h.size hb.size, (hb.block _ (by have := h.size; omega)).trans h.box,
  h.rows.keep hb.size (fun b hb' => hb.block _ (h.rows.lt hb').2) (fun b h1 h2 h3 => ⟨h1, hb.block _ h3⟩)⟩
theorem UnI.typ {w0 w w5 wr : World} {kd : Int} {A5 : Option Addr} {nn c5 : Nat} {xs : List Ty} {A6 : Option Addr} {c6 bx r : Nat} {ns : List ByteArray} (h : UnI w0 w w5 kd A5 nn c5 xs A6 c6 bx wr) (hn : nn = ns.length) (hN : NamesAt (strike (fun k => k = bx ∨ k ≤ r) w5) A5 ns) (hbx : bx < w5.heap.size) (hr : w.heap.size ≤ r) (hrl : r < w5.heap.size) (hwb : w.heap.size ≤ bx) (h0 : w0.heap.size ≤ w.heap.size) (hnz : ns.length ≤ 9223372036854775807) (hx : xs.length ≤ 9223372036854775807) :
  TyAt (strike (fun k => w0.heap.size ≤ k ∧ k < w.heap.size) (wr.setRow r #[.int .i64 kd, .string ⟨#[]⟩, .int .i64 0, .string ⟨#[]⟩, .string ⟨#[]⟩, .slice A5 nn c5, .slice A6 xs.length c6])) [.int .i64 kd, .string ⟨#[]⟩, .int .i64 0, .string ⟨#[]⟩, .string ⟨#[]⟩, .slice A5 nn c5, .slice A6 xs.length c6] (.mk kd ⟨#[]⟩ 0 ⟨#[]⟩ ⟨#[]⟩ ns xs) := by
 subst hn
 refine ty_made (t := .mk kd ⟨#[]⟩ 0 ⟨#[]⟩ ⟨#[]⟩ ns xs) (by show (⟨#[]⟩ : ByteArray).size ≤ 9223372036854775807; decide) (by show (⟨#[]⟩ : ByteArray).size ≤ 9223372036854775807; decide) (by show (⟨#[]⟩ : ByteArray).size ≤ 9223372036854775807; decide) hnz hx h.rows.cap ?_ ?_
 ·exact names_keep hN (by rw [size_setRow]; exact h.size) (fun b hb hS => ⟨fun e => hS (.inr (by omega)), (setRow_other _ _ _ _ (fun e => hS (.inr (by omega)))).trans (h.low b hb (fun e => hS (.inl e)))⟩)
 ·have e1 := h.rows.done (S' := fun k => w0.heap.size ≤ k ∧ k < w5.heap.size) (fun k hk => ⟨hk, hk.2⟩)
  exact e1.move (by rw [size_setRow]; exact Nat.le_refl _) fun b hb hS => ⟨fun e => hS ⟨e.1, by omega⟩, setRow_other _ _ _ _ (fun e => hS ⟨by omega, by omega⟩)⟩
def UnS (W4 : World) (kd : Int) (A5 : Option Addr) (nn c5 : Nat) (ns : List ByteArray) (b0 : Nat) (wx : World) : Prop :=
 wx.heap[b0]? = some (.cells #[.int .i64 kd, .string ⟨#[]⟩, .int .i64 0, .string ⟨#[]⟩, .string ⟨#[]⟩, .slice A5 nn c5, .slice none 0 0] 25 (0, 0)) ∧ W4.heap.size ≤ b0 ∧ Below W4.heap.size W4 wx ∧ NamesAt (strike (fun k => k = b0 ∨ k < W4.heap.size) wx) A5 ns
set_option maxRecDepth 100000 in
set_option maxHeartbeats 16000000 in
theorem union_any (f : FuncId) (up : Bool) (hff : FnIn f) (w0 : World) (a b : Ty) (la lb : List Value) (w : World) (ga : GoodT a) (gb : GoodT b) (hl : wins a.kind up) (hk : a.kind = b.kind) (h9a : many a ≤ 9000) (h9b : many b ≤ 9000) (hTa : TyAt w0 la a) (hTb : TyAt w0 lb b) (hw0 : Below w0.heap.size w0 w)
  (IHf : ∀ x y, x ∈ a.subs → y ∈ b.subs → BdCall w0 f up x y) :
  Calls Try.prog 42 #[.agg la.toArray, .agg lb.toArray, .func (.func f) #[] #[]] w (BdOut w0 up a b w) := by
 have HTa := Lib.hid hTa
 have HTb := Lib.hid hTb
 have HFF := Lib.hid hff
 have HW0 := Lib.hid hw0
 have GA := Lib.hid ga
 have GB := Lib.hid gb
 have HKL := Lib.hid (And.intro hl hk)
 have H99 := Lib.hid (And.intro h9a h9b)
 have h56 : a.kind = 5 ∨ a.kind = 6 := by unfold wins at hl; omega
 have h56b : b.kind = 5 ∨ b.kind = 6 := by rw [← hk]; exact h56
 have H56 := Lib.hid h56
 obtain ⟨An, cA, As, cS, rfl, -, -, -, -, -, hNa, -⟩ := hTa.parts
 obtain ⟨Bn, cB, Bs, cD, rfl, -, -, -, -, -, hNb, -⟩ := hTb.parts
 have HNA := Lib.hid hNa
 have HNB := Lib.hid hNb
 have HIF := Lib.hid IHf
 obtain ⟨na, hna⟩ : ∃ na, na = a.names.length := ⟨_, rfl⟩
 obtain ⟨nb, hnb⟩ : ∃ nb, nb = b.names.length := ⟨_, rfl⟩
 have hza : na ≤ 9000 := by rw [hna]; exact row_small ga h56 h9a
 have hzb : nb ≤ 9000 := by rw [hnb]; exact row_small gb h56b h9b
 have HNN := Lib.hid (And.intro hna hnb)
 obtain ⟨W2, hW2, B2, O0, O1, hl2⟩ := two_boxes w #[.int .i64 a.kind, .string a.pkg, .int .i64 a.major, .string a.mod, .string a.name, .slice An a.names.length cA, .slice As a.subs.length cS] #[.int .i64 b.kind, .string b.pkg, .int .i64 b.major, .string b.mod, .string b.name, .slice Bn b.names.length cB, .slice Bs b.subs.length cD] 25 25
 have s2 : W2.heap.size = w.heap.size + 1 + 1 := by rw [hW2]; simp
 obtain ⟨W3, hW3⟩ : ∃ W3, W3 = W2.alloc (.cells #[.int .i64 0, .string ⟨#[]⟩, .int .i64 0, .string ⟨#[]⟩, .string ⟨#[]⟩, .slice none 0 0, .slice none 0 0] 25) := ⟨_, rfl⟩
 have B3 : Below W2.heap.size W2 W3 := by rw [hW3]; exact below_new (Below.refl _ _) _
 have s3 : W3.heap.size = w.heap.size + 1 + 1 + 1 := by rw [hW3]; simp [s2]
 have O2 : W3.heap[w.heap.size + 1 + 1]? = some (.cells #[.int .i64 0, .string ⟨#[]⟩, .int .i64 0, .string ⟨#[]⟩, .string ⟨#[]⟩, .slice none 0 0, .slice none 0 0] 25 (0, 0)) := by rw [hW3, ← s2]; exact heap_alloc_new W2 _
 have HB3 : Hid (Below w.heap.size w W3) := Lib.hid (below_over B2 B3)
 have X0 : W3.heap[w.heap.size]? = some (.cells #[.int .i64 a.kind, .string a.pkg, .int .i64 a.major, .string a.mod, .string a.name, .slice An a.names.length cA, .slice As a.subs.length cS] 25 (0, 0)) := (B3.block _ (by omega)).trans O0
 have X1 : W3.heap[w.heap.size + 1]? = some (.cells #[.int .i64 b.kind, .string b.pkg, .int .i64 b.major, .string b.mod, .string b.name, .slice Bn b.names.length cB, .slice Bs b.subs.length cD] 25 (0, 0)) := (B3.block _ (by omega)).trans O1
 have HW : Hid (((w.alloc (.cells #[.int .i64 a.kind, .string a.pkg, .int .i64 a.major, .string a.mod, .string a.name, .slice An a.names.length cA, .slice As a.subs.length cS] 25)).alloc (.cells #[.int .i64 b.kind, .string b.pkg, .int .i64 b.major, .string b.mod, .string b.name, .slice Bn b.names.length cB, .slice Bs b.subs.length cD] 25)).alloc (.cells #[.int .i64 0, .string ⟨#[]⟩, .int .i64 0, .string ⟨#[]⟩, .string ⟨#[]⟩, .slice none 0 0, .slice none 0 0] 25) = W3) := Lib.hid (by rw [hW3, hW2])
 have HS3 := Lib.hid s3
 have HX0 := Lib.hid X0
 have HX1 := Lib.hid X1
 have HO2 := Lib.hid O2
 have x5 : W3.cell? ⟨w.heap.size, 5, none⟩ = some (.slice An na cA) := by rw [hna]; exact Lib.cell_of_heap X0 5
 have y5 : W3.cell? ⟨w.heap.size + 1, 5, none⟩ = some (.slice Bn nb cB) := by rw [hnb]; exact Lib.cell_of_heap X1 5
 obtain ⟨W4, hW4⟩ : ∃ W4, W4 = W3.alloc (.cells #[.slice An na cA, .slice Bn nb cB] 22) := ⟨_, rfl⟩
 have B4 : Below W3.heap.size W3 W4 := by rw [hW4]; exact below_new (Below.refl _ _) _
 have s4 : W4.heap.size = w.heap.size + 1 + 1 + 1 + 1 := by rw [hW4]; simp [s3]
 have O4 : W4.heap[W3.heap.size]? = some (.cells #[.slice An na cA, .slice Bn nb cB] 22 (0, 0)) := by rw [hW4]; exact heap_alloc_new W3 _
 have hb04 : Below w0.heap.size w0 W4 := below_over hw0 (below_over HB3.out B4)
 have CC := Lib.hid (concat_any W4 W3.heap.size An na cA Bn nb cB a.names b.names hna hnb (by omega) (by omega) (Lib.cell_of_heap O4 0) (Lib.cell_of_heap O4 1) (hNa.below hb04) (hNb.below hb04))
 have HW4 := Lib.hid hW4
 have HB4 := Lib.hid B4
 have HS4 := Lib.hid s4
 have HSZ : Hid (∀ s ∈ a.names ++ b.names, s.size ≤ 9223372036854775807) := Lib.hid (fun s hs => by
  rcases List.mem_append.1 hs with h | h
  ·obtain ⟨i, hi⟩ := List.getElem?_of_mem h
   obtain ⟨g, o, -, -, -, hz⟩ := hNa i s hi
   exact hz
  ·obtain ⟨i, hi⟩ := List.getElem?_of_mem h
   obtain ⟨g, o, -, -, -, hz⟩ := hNb i s hi
   exact hz)
 clear hff hW2 hW3 hW4 B2 B3 B4 O0 O1 O2 O4 s2 s3 s4 hl2 hTa hTb ga gb hk hl h56 h56b hw0 X0 X1 hna hnb hNa hNb IHf h9a h9b hb04
 go_enter Try.func42, Try.ntmps42
 go_upto_region 1 with fail
 rw [HW.out]
 clear HW
 go_wp2_with fail
 rw [← HW4.out]
 refine CC.out.mono ?_; rintro e w5 ⟨v, rfl, hO5, hb5⟩
 clear CC x5 y5
 obtain ⟨A5, c5, rfl⟩ := hO5.slice
 obtain ⟨ns0, hns0⟩ : ∃ ns0, ns0 = a.names ++ b.names := ⟨_, rfl⟩
 rw [← hns0] at hO5 HSZ ⊢
 have hl0 : ns0.length ≤ 1000000 := by rw [hns0, List.length_append, ← HNN.out.1, ← HNN.out.2]; omega
 have hc5 := hO5.holds.1
 have CS := Lib.hid (sortU_any A5 c5 W4.heap.size ns0 w5 hO5 hl0)
 have HB5 := Lib.hid hb5
 have HNS0 := Lib.hid hns0
 obtain ⟨nl, hnl⟩ : ∃ nl, nl = ns0.length := ⟨_, rfl⟩
 have HNL := Lib.hid hnl
 rw [← hnl] at CS hl0 hc5 ⊢
 clear hO5 hb5 hns0 hnl
 go_wp2_with fail
 refine CS.out.mono ?_; rintro e w6 ⟨rfl, hH6, hb6⟩
 have hsz5 := HB5.out.size
 have hB46 : Below W4.heap.size W4 w6 := HB5.out.trans (hb6 _ (Nat.le_refl _) hsz5)
 have HB46 := Lib.hid hB46
 have HH6 := Lib.hid hH6
 have HC5 := Lib.hid hc5
 have HL0 := Lib.hid hl0
 obtain ⟨ns, hns⟩ : ∃ ns, ns = uniN ns0 := ⟨_, rfl⟩
 obtain ⟨nn, hnn⟩ : ∃ nn, nn = ns.length := ⟨_, rfl⟩
 have CU : Hid (∀ wq, Below w6.heap.size w6 wq → Calls Try.prog 52 #[.slice A5 nl c5] wq fun e w' => e = .returned (.slice A5 nn c5) ∧ NamesAt (strike (fun k => k < W4.heap.size ∨ w6.heap.size ≤ k) w') A5 ns ∧ (∀ k, w6.heap.size ≤ k → k < wq.heap.size → w'.heap[k]? = wq.heap[k]?) ∧ ∀ m, m ≤ W4.heap.size → m ≤ wq.heap.size → Below m wq w') := Lib.hid (fun wq hq => by
  have := compU_any A5 c5 W4.heap.size w6.heap.size ns0 wq (HH6.out.keep hq) (by rw [← HNL.out]; exact HC5.out) (by rw [← HNL.out]; exact HL0.out) HSZ.out
  rw [← HNL.out, ← hns, ← hnn] at this
  exact this)
 have HKEEP : Hid (∀ wx, Below W4.heap.size W4 wx → wx.cell? ⟨w.heap.size, 0, none⟩ = some (.int .i64 a.kind)) := Lib.hid (fun wx hb => Lib.cell_of_heap ((hb.block _ (by have := HS4.out; omega)).trans ((HB4.out.block _ (by have := HS3.out; omega)).trans HX0.out)) 0)
 have hs46 := hB46.size
 have HNS := Lib.hid (And.intro hns hnn)
 clear CS hH6 hb6 hB46 hc5 hl0 hsz5 hns hnn
 go_upto_region 3 with fail
 go_cut [9] (fun s9 wx => ∃ b0 : Nat, s9 = .pointer (some ⟨b0, 0, none⟩) ∧ UnS W4 a.kind A5 nn c5 ns b0 wx)
 case first =>
  have hH0 := HKEEP.out w6.drew (below_over HB46.out (Below.drew (Below.refl _ _)))
  refine AnyX.start (fun wx => wx.cell? ⟨w.heap.size, 0, none⟩ = some (.int .i64 a.kind)) (fun _ => false) (by kernel_rfl) ?_
  refine AnyX.move (i := 0) (v := ?_) rfl (by kernel_rfl) (by kernel_rfl) (by kernel_rfl) (by kernel_rfl) (fun _ _ _ h => h) (Or.inl ⟨by rfl, ?_⟩) ?_
  rotate_left
  ·(intro wS _; go_simp; try with_reducible rfl)
  simp only [List.getElem_toArray, List.getElem_cons_succ, List.getElem_cons_zero]
  simp only [Act.put, List.setIfInBounds_toArray]
  simp only [List.set_cons_zero, List.set_cons_succ]
  refine AnyX.take (i := 1) (v := ?_) rfl (by kernel_rfl) (by kernel_rfl) (by kernel_rfl) (by kernel_rfl) (by kernel_rfl) (fun _ _ _ h => h) hH0 (Or.inl ⟨by rfl, ?_⟩) ?_
  rotate_left
  ·(intro wS hS; (try obtain hc := hS); go_simp; try with_reducible rfl)
  simp only [List.getElem_toArray, List.getElem_cons_succ, List.getElem_cons_zero]
  simp only [Act.put, List.setIfInBounds_toArray]
  simp only [List.set_cons_zero, List.set_cons_succ]
  refine AnyX.move (i := 2) (v := ?_) rfl (by kernel_rfl) (by kernel_rfl) (by kernel_rfl) (by kernel_rfl) (fun _ _ _ h => h) (Or.inl ⟨by rfl, ?_⟩) ?_
  rotate_left
  ·(intro wS _; go_simp; try with_reducible rfl)
  simp only [List.getElem_toArray, List.getElem_cons_succ, List.getElem_cons_zero]
  simp only [Act.put, List.setIfInBounds_toArray]
  simp only [List.set_cons_zero, List.set_cons_succ]
  refine AnyX.go2 3 5 (by kernel_rfl) rfl rfl rfl rfl (fun K hK => ?_) (fun K hK => ?_)
  ·simp only [List.getElem_toArray, List.getElem_cons_succ, List.getElem_cons_zero]
   go_simp
   refine (CU.out w6.drew (Below.drew (Below.refl _ _))).mono ?_
   rintro e w7 ⟨rfl, hN7, hk7, hb7⟩
   have hB67 := hb7 W4.heap.size (Nat.le_refl _) hs46
   have hB47 : Below W4.heap.size W4 w7 := (HB46.out.trans (Below.drew (Below.refl _ _))).trans hB67
   have hz7 : w6.heap.size ≤ w7.heap.size := hB67.size
   simp only []
   refine hK.out _ _ (fun hoff _ => HKEEP.out w7 hB47) ?_
   clear hK
   try simp only [Act.put, List.setIfInBounds_toArray]
   try simp only [List.set_cons_zero, List.set_cons_succ]
   refine AnyX.move (i := 4) (v := ?_) rfl (by kernel_rfl) (by kernel_rfl) (by kernel_rfl) (by kernel_rfl) (fun _ _ _ h => h) (Or.inl ⟨by rfl, ?_⟩) ?_
   rotate_left
   ·(intro wS _; go_simp; try with_reducible rfl)
   simp only [List.getElem_toArray, List.getElem_cons_succ, List.getElem_cons_zero]
   simp only [Act.put, List.setIfInBounds_toArray]
   simp only [List.set_cons_zero, List.set_cons_succ]
   refine AnyX.go 5 (by kernel_rfl) rfl rfl (fun K hK => ?_)
   simp only [List.getElem_toArray, List.getElem_cons_succ, List.getElem_cons_zero]
   go_simp
   refine hK.out _ _ (fun hoff _ => HKEEP.out _ (below_new hB47 _)) ?_
   clear hK
   try simp only [Act.put, List.setIfInBounds_toArray]
   try simp only [List.set_cons_zero, List.set_cons_succ]
   refine AnyX.go 6 (by kernel_rfl) rfl rfl (fun K hK => ?_)
   simp only [List.getElem_toArray, List.getElem_cons_succ, List.getElem_cons_zero]
   refine wp_store_row 25 (.tmp 9) (.tmp 26) rfl w7.heap.size #[.int .i64 a.kind, .string ⟨#[]⟩, .int .i64 0, .string ⟨#[]⟩, .string ⟨#[]⟩, .slice A5 nn c5, .slice none 0 0] rfl rfl _ _ (heap_alloc_new w7 _) tySize rfl tyOne ?_
   refine hK.out _ _ (fun hoff _ => HKEEP.out _ (setRow_below (below_new hB47 _) hB47.size _)) ?_
   clear hK
   try simp only [Act.put, List.setIfInBounds_toArray]
   try simp only [List.set_cons_zero, List.set_cons_succ]
   refine AnyX.done (by kernel_rfl) ?_ _
   go_wp2_with fail
   go_meet
   exact ⟨_, rfl, setRow_heap _ _ _ _ _ _ (heap_alloc_new w7 _), hB47.size, setRow_below (below_new hB47 _) hB47.size _, names_keep hN7 (by rw [size_setRow]; simp) (fun b hb hS => ⟨fun e => hS (by rcases e with e | e; exact .inr (by omega); exact .inl e), (setRow_other _ _ _ _ (fun e => by omega)).trans (Lib.alloc_old _ _ _ hb)⟩)⟩
  ·simp only [List.getElem_toArray, List.getElem_cons_succ, List.getElem_cons_zero]
   go_simp
   obtain ⟨wa, hwa⟩ : ∃ wa, wa = (w6.alloc (.cells #[.int .i64 0, .string ⟨#[]⟩, .int .i64 0, .string ⟨#[]⟩, .string ⟨#[]⟩, .slice none 0 0, .slice none 0 0] 25)).drew := ⟨_, rfl⟩
   have Ba : Below w6.heap.size w6 wa := by rw [hwa]; exact Below.drew (below_new (Below.refl _ _) _)
   have Xa : wa.heap[w6.heap.size]? = some (.cells #[.int .i64 0, .string ⟨#[]⟩, .int .i64 0, .string ⟨#[]⟩, .string ⟨#[]⟩, .slice none 0 0, .slice none 0 0] 25 (0, 0)) := by rw [hwa]; exact heap_alloc_new w6 _
   have sa : w6.heap.size < wa.heap.size := by rw [hwa]; simp
   have hHa := HKEEP.out wa (below_over HB46.out Ba)
   refine hK.out _ _ (fun _ _ => by rw [hwa] at hHa; exact hHa) ?_
   clear hK
   try simp only [Act.put, List.setIfInBounds_toArray]
   try simp only [List.set_cons_zero, List.set_cons_succ]
   rw [← hwa]
   clear hwa
   refine AnyX.go 3 (by kernel_rfl) rfl rfl (fun K hK => ?_)
   simp only [List.getElem_toArray, List.getElem_cons_succ, List.getElem_cons_zero]
   go_simp
   refine (CU.out wa Ba).mono ?_
   rintro e w7 ⟨rfl, hN7, hk7, hb7⟩
   have hB47 : Below W4.heap.size W4 w7 := (below_over HB46.out Ba).trans (hb7 W4.heap.size (Nat.le_refl _) (by omega))
   have hz7 : wa.heap.size ≤ w7.heap.size := (hb7 0 (Nat.zero_le _) (Nat.zero_le _)).size
   have X7 : w7.heap[w6.heap.size]? = some (.cells #[.int .i64 0, .string ⟨#[]⟩, .int .i64 0, .string ⟨#[]⟩, .string ⟨#[]⟩, .slice none 0 0, .slice none 0 0] 25 (0, 0)) := (hk7 _ (Nat.le_refl _) sa).trans Xa
   simp only []
   refine hK.out _ _ (fun hoff _ => HKEEP.out w7 hB47) ?_
   clear hK
   try simp only [Act.put, List.setIfInBounds_toArray]
   try simp only [List.set_cons_zero, List.set_cons_succ]
   refine AnyX.move (i := 4) (v := ?_) rfl (by kernel_rfl) (by kernel_rfl) (by kernel_rfl) (by kernel_rfl) (fun _ _ _ h => h) (Or.inl ⟨by rfl, ?_⟩) ?_
   rotate_left
   ·(intro wS _; go_simp; try with_reducible rfl)
   simp only [List.getElem_toArray, List.getElem_cons_succ, List.getElem_cons_zero]
   simp only [Act.put, List.setIfInBounds_toArray]
   simp only [List.set_cons_zero, List.set_cons_succ]
   refine AnyX.go 6 (by kernel_rfl) rfl rfl (fun K hK => ?_)
   simp only [List.getElem_toArray, List.getElem_cons_succ, List.getElem_cons_zero]
   refine wp_store_row 25 (.tmp 9) (.tmp 26) rfl w6.heap.size #[.int .i64 a.kind, .string ⟨#[]⟩, .int .i64 0, .string ⟨#[]⟩, .string ⟨#[]⟩, .slice A5 nn c5, .slice none 0 0] rfl rfl _ _ X7 tySize rfl tyOne ?_
   refine hK.out _ _ (fun hoff _ => HKEEP.out _ (setRow_below hB47 hs46 _)) ?_
   clear hK
   try simp only [Act.put, List.setIfInBounds_toArray]
   try simp only [List.set_cons_zero, List.set_cons_succ]
   refine AnyX.done (by kernel_rfl) ?_ _
   go_wp2_with fail
   go_meet
   exact ⟨_, rfl, setRow_heap _ _ _ _ _ _ X7, hs46, setRow_below hB47 hs46 _, names_keep hN7 (by rw [size_setRow]; exact Nat.le_refl _) (fun b hb hS => ⟨fun e => hS (by rcases e with e | e; exact .inr (by omega); exact .inl e), setRow_other _ _ _ _ (fun e => hS (.inr (by omega)))⟩)⟩
 case rest =>
  obtain ⟨b0, rfl, hX9, hb0, hB49, hN9⟩ := hcut
  obtain ⟨w9, rfl⟩ : ∃ w9 : World, w9 = wc := ⟨_, rfl⟩
  have hb9 : b0 < w9.heap.size := (Array.getElem?_eq_some_iff.1 hX9).1
  have hs4 := HS4.out
  have hs9 := hB49.size
  have START : Hid (UnI w0 w w9 a.kind A5 nn c5 [] none 0 b0 w9) := Lib.hid ⟨below_over HB3.out (below_over HB4.out hB49), fun _ _ _ => rfl, Nat.le_refl _, hX9, RowB.start _ _ _ _⟩
  have HN9 := Lib.hid hN9
  have HB49 := Lib.hid hB49
  have PB : Hid (∀ wr : World, (∀ k, k < w9.heap.size → k ≠ b0 → wr.heap[k]? = w9.heap[k]?) → wr.heap[w.heap.size]? = some (.cells #[.int .i64 a.kind, .string a.pkg, .int .i64 a.major, .string a.mod, .string a.name, .slice An a.names.length cA, .slice As a.subs.length cS] 25 (0, 0)) ∧ wr.heap[w.heap.size + 1]? = some (.cells #[.int .i64 b.kind, .string b.pkg, .int .i64 b.major, .string b.mod, .string b.name, .slice Bn b.names.length cB, .slice Bs b.subs.length cD] 25 (0, 0)) ∧ wr.heap[w.heap.size + 1 + 1]? = some (.cells #[.int .i64 0, .string ⟨#[]⟩, .int .i64 0, .string ⟨#[]⟩, .string ⟨#[]⟩, .slice none 0 0, .slice none 0 0] 25 (0, 0))) := Lib.hid (fun wr h => by
   have h3 := HS3.out
   have t := fun k (hk : k < w.heap.size + 1 + 1 + 1) => (h k (by omega) (by omega)).trans ((HB49.out.block k (by omega)).trans (HB4.out.block k (by omega)))
   exact ⟨(t _ (by omega)).trans HX0.out, (t _ (by omega)).trans HX1.out, (t _ (by omega)).trans HO2.out⟩)
  have z5 := Lib.cell_of_heap hX9 5
  simp at z5
  have hNL : nn ≤ 18000 := by
   have h1 := uniS_le ns0
   have h2 := HNS.out
   have h3 := HNN.out
   rw [← uniN_len, ← h2.1, ← h2.2] at h1
   rw [HNS0.out, List.length_append, ← h3.1, ← h3.2] at h1
   omega
  clear hX9 hN9 hB49 CU HKEEP
  go_wp2_with fail
  clear z5
  go_loopw [30] (fun s30 wr => ∃ (xs : List Ty) (A6 : Option Addr) (c6 : Nat), xs.length ≤ nn ∧ s30 = .int .i64 xs.length ∧ Hid (UnI w0 w w9 a.kind A5 nn c5 xs A6 c6 b0 wr) ∧ Hid (∀ (i : Nat) (s : ByteArray) (z : Ty), ns[i]? = some s → xs[i]? = some z → UnN up a b s z)) (fun s30 _ => nn - (intOf s30).toNat)
  case atStart => exact ⟨[], none, 0, by simp, rfl, START, Lib.hid (fun i s z _ h => by simp at h)⟩
  case round =>
   obtain ⟨xs, A6, c6, hxn, rfl, HI, HP⟩ := hrel
   obtain ⟨wo, rfl⟩ : ∃ wo : World, wo = wr := ⟨_, rfl⟩
   obtain ⟨XA, XB, XR⟩ := PB.out wo HI.out.low
   by_cases hlt : xs.length < nn
   ·obtain ⟨s, hs⟩ : ∃ s, ns[xs.length]? = some s := at_some (by rw [← HNS.out.2]; exact hlt)
    obtain ⟨gn, on, rfl, hgn, hcn, -⟩ := HN9.out xs.length s hs
    obtain ⟨hcs, hcn⟩ := strike_cell.1 hcn
    have hgn' : gn < w9.heap.size := by rw [strike_size] at hgn; exact hgn
    have cn : wo.cell? ⟨gn, on + xs.length, none⟩ = some (.string s) := (World.cell?_of_block (a := ⟨gn, on + xs.length, none⟩) (HI.out.low gn hgn' (fun e => hcs (.inl e)))).trans hcn
    have hmem : s ∈ a.names ∨ s ∈ b.names := by
     have h1 := List.mem_of_getElem? hs
     rw [HNS.out.1, uniN_mem, HNS0.out, List.mem_append] at h1
     exact h1
    have HS := Lib.hid hs
    have hb0o := below_over HW0.out HI.out.below
    have CO := Lib.hid (ofName_any f up HFF.out w0 a b s [.int .i64 a.kind, .string a.pkg, .int .i64 a.major, .string a.mod, .string a.name, .slice An a.names.length cA, .slice As a.subs.length cS] [.int .i64 b.kind, .string b.pkg, .int .i64 b.major, .string b.mod, .string b.name, .slice Bn b.names.length cB, .slice Bs b.subs.length cD] wo GA.out GB.out HKL.out.2 H56.out H99.out.1 H99.out.2 hmem HTa.out HTb.out hb0o HIF.out)
    have m0 := Lib.cell_of_heap XA 0
    have m1 := Lib.cell_of_heap XA 1
    have m2 := Lib.cell_of_heap XA 2
    have m3 := Lib.cell_of_heap XA 3
    have m4 := Lib.cell_of_heap XA 4
    have m5 := Lib.cell_of_heap XA 5
    have m6 := Lib.cell_of_heap XA 6
    have n0 := Lib.cell_of_heap XB 0
    have n1 := Lib.cell_of_heap XB 1
    have n2 := Lib.cell_of_heap XB 2
    have n3 := Lib.cell_of_heap XB 3
    have n4 := Lib.cell_of_heap XB 4
    have n5 := Lib.cell_of_heap XB 5
    have n6 := Lib.cell_of_heap XB 6
    simp at m0 m1 m2 m3 m4 m5 m6 n0 n1 n2 n3 n4 n5 n6
    have hk0 : (0 : Int) ≤ xs.length := by omega
    have hk1 : (xs.length : Int) < nn := by omega
    clear hs hgn hcn hcs hmem hb0o XA XB XR
    go_wp2_with fail
    refine CO.out.mono ?_; rintro e w3 ⟨l1, q, rfl, hb3, ⟨v, Hn, cH, Hs, dH, rfl⟩, hcase⟩
    clear CO m0 m1 m2 m3 m4 m5 m6 n0 n1 n2 n3 n4 n5 n6 cn
    obtain ⟨wy, hwy⟩ : ∃ wy, wy = w3.alloc (.cells #[.int .i64 v.kind, .string v.pkg, .int .i64 v.major, .string v.mod, .string v.name, .slice Hn v.names.length cH, .slice Hs v.subs.length dH] 25) := ⟨_, rfl⟩
    have By : Below wo.heap.size wo wy := by rw [hwy]; exact below_new hb3 _
    have B3y : Below w3.heap.size w3 wy := by rw [hwy]; exact below_new (Below.refl _ _) _
    have Yb : wy.heap[w3.heap.size]? = some (.cells #[.int .i64 v.kind, .string v.pkg, .int .i64 v.major, .string v.mod, .string v.name, .slice Hn v.names.length cH, .slice Hs v.subs.length dH] 25 (0, 0)) := by rw [hwy]; exact heap_alloc_new w3 _
    have HI2 := Lib.hid (HI.out.keep hb9 By)
    have HWY := Lib.hid hwy
    obtain ⟨XA, XB, XR⟩ := PB.out wy HI2.out.low
    have HXR := Lib.hid XR
    have hys : wo.heap.size ≤ wy.heap.size := By.size
    have hzo := HI.out.size
    cases q with
    | false =>
     obtain ⟨x, y, hx, hy, hno⟩ : ∃ x y, AtN a s x ∧ AtN b s y ∧ NoBnd up x y := by
      rcases hcase with ⟨h, -⟩ | ⟨-, h⟩
      ·cases h
      ·exact h
     have FIN := Lib.hid (BdOut.zero (w0 := w0) (b := w.heap.size + 1 + 1) HI2.out.below (by omega) (no_union HKL.out.1 HKL.out.2 hx hy hno))
     clear hwy By B3y Yb hb3 hcase XA XB hx hy hno
     go_upto_region 9 with fail
     rw [← HWY.out]
     clear HWY
     go_wp2_with (first | ((with_reducible refine wpList_putRow 25 (w.heap.size + 1 + 1) #[.int .i64 0, .string ⟨#[]⟩, .int .i64 0, .string ⟨#[]⟩, .string ⟨#[]⟩, .slice none 0 0, .slice none 0 0] _ _ XR ?_ ?_ ?_ ?_ ?_ ?_); exact tySize; rfl; exact tyOne; (focus (first | (go_simp; done) | rfl)); (focus (first | (go_simp; done) | rfl))))
     exact ret_agg (fn := Try.f42) (vs := [.int .i64 0, .string ⟨#[]⟩, .int .i64 0, .string ⟨#[]⟩, .string ⟨#[]⟩, .slice none 0 0, .slice none 0 0]) (b := w.heap.size + 1 + 1) rfl rfl rfl Try.underlying25 (by kernel_rfl) (cell7 (setRow_heap _ (w.heap.size + 1 + 1) _ _ _ _ HXR.out)) rfl FIN.out
    | true =>
     obtain ⟨z, hzn, hTz⟩ : ∃ z, UnN up a b s z ∧ TyAt (strike (fun k => w0.heap.size ≤ k ∧ k < wo.heap.size) w3) [.int .i64 v.kind, .string v.pkg, .int .i64 v.major, .string v.mod, .string v.name, .slice Hn v.names.length cH, .slice Hs v.subs.length dH] z := by
      rcases hcase with ⟨-, h⟩ | ⟨h, -⟩
      ·exact h
      ·cases h
     have HTZ : Hid (TyAt (strike (fun k => w0.heap.size ≤ k ∧ k < wo.heap.size) wy) [.int .i64 v.kind, .string v.pkg, .int .i64 v.major, .string v.mod, .string v.name, .slice Hn v.names.length cH, .slice Hs v.subs.length dH] z) := Lib.hid (hTz.move B3y.size fun k hk hS => ⟨hS, B3y.block k hk⟩)
     have HPN : Hid (∀ (i : Nat) (s : ByteArray) (z' : Ty), ns[i]? = some s → (xs ++ [z])[i]? = some z' → UnN up a b s z') := Lib.hid (fun i s' z' h1 h2 => by
      rcases Nat.lt_or_ge i xs.length with c | c
      ·rw [List.getElem?_append_left c] at h2
       exact HP.out i s' z' h1 h2
      ·have hi := (List.getElem?_eq_some_iff.1 h2).1
       have : i = xs.length := by simp at hi; omega
       subst this
       rw [List.getElem?_append_right (Nat.le_refl _)] at h2
       simp at h2
       subst h2
       rw [HS.out] at h1
       cases h1
       exact hzn)
     have y6 := Lib.cell_of_heap HI2.out.box 6
     have z0 := Lib.cell_of_heap Yb 0
     have z1 := Lib.cell_of_heap Yb 1
     have z2 := Lib.cell_of_heap Yb 2
     have z3 := Lib.cell_of_heap Yb 3
     have z4 := Lib.cell_of_heap Yb 4
     have z5 := Lib.cell_of_heap Yb 5
     have z6 := Lib.cell_of_heap Yb 6
     simp at y6 z0 z1 z2 z3 z4 z5 z6
     obtain ⟨C, hC1, hown, hC4⟩ := HI2.out.rows.cells
     have hown : wy.ownsRow w9.heap.size 25 7 (.slice A6 xs.length c6) xs.length C.flatten := hown
     obtain ⟨inf, hi1, hy0, hy1, hy2⟩ := info_parts typ_info
     have hMX : xs.length + 1 ≤ maxLen := by unfold maxLen; omega
     have hAL : ∀ oo, w9.heap.size ≤ (wy.alloc oo).heap.size := fun oo => by have e1 : (wy.alloc oo).heap.size = wy.heap.size + 1 := (by simp); omega
     have hwo2 : ∀ c, (Value.slice A6 xs.length c6).ownBlock = some c → w9.heap.size ≤ c ∧ c < wo.heap.size := fun c e => HI.out.rows.lt e
     have hw00 : w0.heap.size ≤ w.heap.size := HW0.out.size
     clear hwy By B3y Yb hb3 hcase hzn hTz XA XB XR
     go_upto_region 10 with fail
     rw [← HWY.out]
     clear HWY
     go_wp2_with (first | (refine wpList_append_lies _ rfl (.tmp 46) (.tmp 48) 23 rfl w9.heap.size 25 inf _ 7 112 Try.underlying23 hi1 hy0 hy1 hy2 (by rfl) (Nat.zero_lt_succ 6) (.slice A6 xs.length c6) xs.length _ rfl (hown.alloc _) ⟨wy.heap.size, 0, none⟩ 1 1 [.int .i64 v.kind, .string v.pkg, .int .i64 v.major, .string v.mod, .string v.name, .slice Hn v.names.length cH, .slice Hs v.subs.length dH] rfl rfl (fun q u hq => by rw [WideShapes.add_plain, Nat.zero_add, Lib.cell_of_heap (heap_alloc_new wy _), ← hq, ← List.getElem?_toArray]) (fun u hu => by simp at hu; rcases hu with rfl | rfl | rfl | rfl | rfl | rfl | rfl <;> rfl) Nat.one_pos hMX (by omega) (hAL _) _ rfl ?_; intro gb cap w5 hown5 hgrow hat hlt5; obtain ⟨ROW9, Y9, old9, bel9, z9, e9, hs9⟩ := rowB_more (R := tR) (x := z) (k := 6) (S' := fun k => w0.heap.size ≤ k ∧ k < wo.heap.size) HI2.out.rows (fun b hb => by rcases hb with hb | hb; exact ⟨hb.1, by omega⟩; exact ⟨by have := (hwo2 b hb).1; omega, (hwo2 b hb).2⟩) (fun b hb => by omega) hC1 hC4 HTZ.out hown5 hgrow hat hb9 ⟨by omega, hb9⟩ HI2.out.box rfl; clear hown5 hgrow hat hlt5))
     have hl9 : (xs ++ [z]).length = xs.length + 1 := by simp
     have INV : Hid (UnI w0 w w9 a.kind (some ⟨gn, on, none⟩) nn c5 (xs ++ [z]) (some ⟨gb, 0, none⟩) cap b0 (w5.setCell ⟨b0, 6, none⟩ (.slice (some ⟨gb, 0, none⟩) (xs.length + 1) cap))) := Lib.hid
      ⟨HI2.out.below.trans (bel9 _ (by omega)), fun k hk hne => (old9 k (fun e => by have := (hwo2 k e).1; omega) hne (by have := HI2.out.size; omega)).trans (HI2.out.low k hk hne), Nat.le_trans HI2.out.size hs9, by rw [hl9]; exact Y9, ROW9⟩
     clear ROW9 Y9 old9 bel9 hs9 hC1 hown hC4 hi1 hy0 hy1 hy2 hMX hwo2 hAL
     go_wp2_with fail
     go_roundw
     case rel => exact ⟨xs ++ [z], some ⟨gb, 0, none⟩, cap, by omega, by rw [hl9]; go_num, INV, HPN⟩
     case measure => simp [intOf]; omega
   ·have hxe : xs.length = nn := by omega
    have HX7 := Lib.hid XR
    have FIN : Hid (BdOut w0 up a b w (.returned (.tuple #[.agg #[.int .i64 a.kind, .string ⟨#[]⟩, .int .i64 0, .string ⟨#[]⟩, .string ⟨#[]⟩, .slice A5 nn c5, .slice A6 xs.length c6], .bool true])) (wo.setRow (w.heap.size + 1 + 1) #[.int .i64 a.kind, .string ⟨#[]⟩, .int .i64 0, .string ⟨#[]⟩, .string ⟨#[]⟩, .slice A5 nn c5, .slice A6 xs.length c6])) := Lib.hid
     ⟨[.int .i64 a.kind, .string ⟨#[]⟩, .int .i64 0, .string ⟨#[]⟩, .string ⟨#[]⟩, .slice A5 nn c5, .slice A6 xs.length c6], true, rfl, setRow_below HI.out.below (by omega) _, .inl ⟨rfl, .mk a.kind ⟨#[]⟩ 0 ⟨#[]⟩ ⟨#[]⟩ ns xs, un_bnd HKL.out.1 HKL.out.2 GA.out GB.out rfl ⟨rfl, rfl, rfl, rfl⟩ (by show ns = _; rw [HNS.out.1, HNS0.out]) (by show xs.length = ns.length; rw [hxe, HNS.out.2]) HP.out,
      HI.out.typ HNS.out.2 (names_keep HN9.out (Nat.le_refl _) (fun k hk hS => ⟨fun e => hS (e.imp id (fun e => by omega)), rfl⟩)) hb9 (by omega) (by omega) (by omega) HW0.out.size (by rw [← HNS.out.2]; omega) (by omega)⟩⟩
    have z0 := Lib.cell_of_heap HI.out.box 0
    have z1 := Lib.cell_of_heap HI.out.box 1
    have z2 := Lib.cell_of_heap HI.out.box 2
    have z3 := Lib.cell_of_heap HI.out.box 3
    have z4 := Lib.cell_of_heap HI.out.box 4
    have z5 := Lib.cell_of_heap HI.out.box 5
    have z6 := Lib.cell_of_heap HI.out.box 6
    simp at z0 z1 z2 z3 z4 z5 z6
    clear hxe XA XB
    go_upto_region 12 with fail
    go_wp2_with (first | ((with_reducible refine wpList_putRow 25 (w.heap.size + 1 + 1) #[.int .i64 a.kind, .string ⟨#[]⟩, .int .i64 0, .string ⟨#[]⟩, .string ⟨#[]⟩, .slice A5 nn c5, .slice A6 xs.length c6] _ _ XR ?_ ?_ ?_ ?_ ?_ ?_); exact tySize; rfl; exact tyOne; (focus (first | (go_simp; done) | rfl)); (focus (first | (go_simp; done) | rfl))))
    exact ret_agg (fn := Try.f42) (vs := [.int .i64 a.kind, .string ⟨#[]⟩, .int .i64 0, .string ⟨#[]⟩, .string ⟨#[]⟩, .slice A5 nn c5, .slice A6 xs.length c6]) (b := w.heap.size + 1 + 1) rfl rfl rfl Try.underlying25 (by kernel_rfl) (cell7 (setRow_heap _ (w.heap.size + 1 + 1) _ _ _ _ HX7.out)) rfl FIN.out
end Go.Proofs.Ytcdmgcgjonndpaa
