/-
  Several texts in one:  · 
-/
import Derived.Test.YtcdmgcgjonndpaaK15
import Derived.Test.YtcdmgcgjonndpaaK08
import Derived.Test.YtcdmgcgjonndpaaK06
/-  -/
namespace Go.Proofs.Ytcdmgcgjonndpaa
open Go Go.RowKit Go.Shelf
open Go.Sort
open M
def insP (s : ByteArray) (x : Ty) : List ByteArray → List Ty → List ByteArray × List Ty
 | n :: ns, y :: ys => if LtS s n then (s :: n :: ns, x :: y :: ys) else (n :: (insP s x ns ys).1, y :: (insP s x ns ys).2)
 | _, _ => ([s], [x])
def putT (t : Ty) (s : ByteArray) (x : Ty) : Ty := .mk t.kind t.pkg t.major t.mod t.name (insP s x t.names t.subs).1 (insP s x t.names t.subs).2
def insR (dn : Bool) (s : ByteArray) (x : Ty) (ns : List ByteArray) (xs : List Ty) : List ByteArray × List Ty := if dn = true then (ns, xs) else insP s x ns xs
theorem insP_len (s : ByteArray) (x : Ty) : ∀ (ns : List ByteArray) (xs : List Ty), ns.length = xs.length → (insP s x ns xs).1.length = ns.length + 1 ∧ (insP s x ns xs).2.length = ns.length + 1
 | [], [], _ => ⟨rfl, rfl⟩
 | n :: ns, y :: ys, h => by
  have ih := insP_len s x ns ys (by simpa using h)
  have h' : ns.length = ys.length := by simpa using h
  unfold insP
  split
  ·exact ⟨by simp, by simp [h']⟩
  ·exact ⟨by simp [ih.1], by simp [ih.2]⟩
 | [], _ :: _, h => by simp at h
 | _ :: _, [], h => by simp at h
structure PuI (S : Nat → Prop) (w W3 : World) (ns : List ByteArray) (xs : List Ty) (A5 : Option Addr) (c5 : Nat) (A6 : Option Addr) (c6 : Nat) (wr : World) : Prop where
 below : Below W3.heap.size W3 wr
 names : RowB stR (fun k => k < W3.heap.size) W3.heap.size ns A5 c5 wr
 types : RowB tR (fun k => (S k ∨ (w.heap.size ≤ k ∧ k < W3.heap.size)) ∨ (Value.slice A5 ns.length c5).ownBlock = some k) W3.heap.size xs A6 c6 wr
 apart : ∀ b, (Value.slice A5 ns.length c5).ownBlock = some b → (Value.slice A6 xs.length c6).ownBlock ≠ some b
theorem grown_low {n : Nat} {w w1 w3 : World} {r : Option Nat} {o : Obj} (hb : Below n w w1) (hn : n ≤ w1.heap.size) (hr : ∀ b, r = some b → n ≤ b) (h : (w1.alloc o).grownBy w3 r) : Below n w w3 := by
 have hz : (w1.alloc o).heap.size = w1.heap.size + 1 := by simp
 refine hb.trans ⟨h.os.trans rfl, h.tape.trans rfl, h.output.trans rfl, Nat.le_trans (by omega) h.size, fun b hlt => (h.block b (by omega) (fun e => ?_)).trans (Lib.alloc_old w1 o b (by omega))⟩
 have := hr b e.symm
 omega
theorem PuI.name {S : Nat → Prop} {w W3 : World} {ns : List ByteArray} {xs : List Ty} {A5 : Option Addr} {c5 : Nat} {A6 : Option Addr} {c6 g cap : Nat} {wr w3 : World} {o : Obj} {s : ByteArray} {C : List (List Value)} (h : PuI S w W3 ns xs A5 c5 A6 c6 wr) (hs : s.size ≤ 9223372036854775807)
  (hC1 : C.length = ns.length) (hC4 : ∀ (i : Nat) (l : List Value) (x : ByteArray), C[i]? = some l → ns[i]? = some x → stR.E (strike (fun b => b < W3.heap.size ∨ (Value.slice A5 ns.length c5).ownBlock = some b) wr) l x)
  (hown : w3.ownsRow W3.heap.size 9 1 (.slice (some ⟨g, 0, none⟩) (ns.length + 1) cap) (ns.length + 1) (C.flatten ++ [.string s])) (hgrow : (wr.alloc o).grownBy w3 (Value.slice A5 ns.length c5).ownBlock) (hat : (Value.slice A5 ns.length c5).ownBlock = some g ∨ g = (wr.alloc o).heap.size) :
  PuI S w W3 (ns ++ [s]) xs (some ⟨g, 0, none⟩) cap A6 c6 w3 := by
 have hz := h.below.size
 obtain ⟨R9, old9, s9⟩ := RowB.more (R := stR) (S := fun k => k < W3.heap.size) (S' := fun b => b < W3.heap.size ∨ (Value.slice A5 ns.length c5).ownBlock = some b) (fun b hb => hb) (fun b hb => by omega) hC1 hC4 (l := [.string s]) ⟨rfl, hs⟩ hown hgrow hat
 have hg : (Value.slice A5 ns.length c5).ownBlock = some g ∨ wr.heap.size < g := by
  rcases hat with e | e
  ·exact .inl e
  ·exact .inr (by rw [e]; simp)
 refine ⟨grown_low h.below hz (fun b e => (h.names.lt e).1) hgrow, R9, ?_, ?_⟩
 ·refine h.types.keep s9 (fun b hb => old9 b (fun e => h.apart b e hb) (h.types.lt hb).2) (fun b h1 h2 h3 => ⟨?_, old9 b (fun e => h1 (.inr e)) h3⟩)
  rintro (e | e)
  ·exact h1 (.inl e)
  ·simp [Value.ownBlock] at e
   subst e
   rcases hg with e | e
   ·exact h1 (.inr e)
   ·omega
 ·intro b hb e
  simp [Value.ownBlock] at hb
  subst hb
  rcases hg with e' | e'
  ·exact h.apart _ e' e
  ·have := (h.types.lt e).2; omega
theorem PuI.type {S : Nat → Prop} {w W3 : World} {ns : List ByteArray} {xs : List Ty} {A5 : Option Addr} {c5 : Nat} {A6 : Option Addr} {c6 g cap : Nat} {wr w3 : World} {o : Obj} {l : List Value} {t : Ty} {C : List (List Value)} (h : PuI S w W3 ns xs A5 c5 A6 c6 wr) (hw : w.heap.size ≤ W3.heap.size) (hS : ∀ k, S k → k < w.heap.size)
  (hE : TyAt (strike (fun k => S k ∨ w.heap.size ≤ k) wr) l t)
  (hC1 : C.length = xs.length) (hC4 : ∀ (i : Nat) (l : List Value) (x : Ty), C[i]? = some l → xs[i]? = some x → tR.E (strike (fun b => ((S b ∨ (w.heap.size ≤ b ∧ b < W3.heap.size)) ∨ (Value.slice A5 ns.length c5).ownBlock = some b) ∨ (Value.slice A6 xs.length c6).ownBlock = some b) wr) l x)
  (hown : w3.ownsRow W3.heap.size 25 7 (.slice (some ⟨g, 0, none⟩) (xs.length + 1) cap) (xs.length + 1) (C.flatten ++ l)) (hgrow : (wr.alloc o).grownBy w3 (Value.slice A6 xs.length c6).ownBlock) (hat : (Value.slice A6 xs.length c6).ownBlock = some g ∨ g = (wr.alloc o).heap.size) :
  PuI S w W3 ns (xs ++ [t]) A5 c5 (some ⟨g, 0, none⟩) cap w3 := by
 have hz := h.below.size
 obtain ⟨R9, old9, s9⟩ := RowB.more (R := tR) (S := fun k => (S k ∨ (w.heap.size ≤ k ∧ k < W3.heap.size)) ∨ (Value.slice A5 ns.length c5).ownBlock = some k) (S' := fun k => S k ∨ w.heap.size ≤ k) (fun b hb => by
  rcases hb with ((hb | hb) | hb) | hb
  ·exact .inl hb
  ·exact .inr hb.1
  ·exact .inr (by have := (h.names.lt hb).1; omega)
  ·exact .inr (by have := (h.types.lt hb).1; omega)) (fun b hb => by
  rcases hb with (hb | hb) | hb
  ·have := hS b hb; omega
  ·omega
  ·exact (h.names.lt hb).2) hC1 hC4 (l := l) hE hown hgrow hat
 have hg : (Value.slice A6 xs.length c6).ownBlock = some g ∨ wr.heap.size < g := by
  rcases hat with e | e
  ·exact .inl e
  ·exact .inr (by rw [e]; simp)
 refine ⟨grown_low h.below hz (fun b e => (h.types.lt e).1) hgrow, h.names.strs (fun b hb => old9 b (fun e => h.apart b hb e) (h.names.lt hb).2), R9, ?_⟩
 intro b hb e
 simp [Value.ownBlock] at e
 subst e
 rcases hg with e' | e'
 ·exact h.apart _ hb e'
 ·have := (h.names.lt hb).2; omega
def PuOut (S : Nat → Prop) (t : Ty) (s : ByteArray) (x : Ty) (w : World) (e : Ending) (w' : World) : Prop := ∃ l : List Value, e = .returned (.agg l.toArray) ∧ TyAt (strike S w') l (putT t s x) ∧ Below w.heap.size w w'
set_option maxRecDepth 100000 in
set_option maxHeartbeats 16000000 in
theorem put_any (S : Nat → Prop) (t : Ty) (s : ByteArray) (x : Ty) (lt lx : List Value) (w : World) (hS : ∀ k, S k → k < w.heap.size) (hT : TyAt (strike S w) lt t) (hX : TyAt (strike S w) lx x) (hlen : t.names.length = t.subs.length) (hz : t.names.length ≤ 20000) (hs : s.size ≤ 9223372036854775807) :
  Calls Try.prog 30 #[.agg lt.toArray, .string s, .agg lx.toArray] w (PuOut S t s x w) := by
 have HT := Lib.hid hT
 have HX := Lib.hid hX
 have HSS := Lib.hid hS
 have HZS := Lib.hid hs
 obtain ⟨An, cA, As, cS, rfl, zp, zm, zn, -, -, hNt, hSt⟩ := hT.parts
 have HZT := Lib.hid (And.intro zp (And.intro zm zn))
 obtain ⟨Fn, cF, Fs, dF, rfl, -⟩ := hX.parts
 have HN := Lib.hid hNt
 have HU := Lib.hid hSt
 obtain ⟨n, hn⟩ : ∃ n, n = t.names.length := ⟨_, rfl⟩
 obtain ⟨W2, hW2, B2, O0, O1, hl2⟩ := two_boxes w #[.int .i64 t.kind, .string t.pkg, .int .i64 t.major, .string t.mod, .string t.name, .slice An t.names.length cA, .slice As t.subs.length cS] #[.int .i64 x.kind, .string x.pkg, .int .i64 x.major, .string x.mod, .string x.name, .slice Fn x.names.length cF, .slice Fs x.subs.length dF] 25 25
 have s2 : W2.heap.size = w.heap.size + 1 + 1 := by rw [hW2]; simp
 obtain ⟨W3, hW3⟩ : ∃ W3, W3 = W2.alloc (.cells #[.int .i64 0, .string ⟨#[]⟩, .int .i64 0, .string ⟨#[]⟩, .string ⟨#[]⟩, .slice none 0 0, .slice none 0 0] 25) := ⟨_, rfl⟩
 have B3 : Below W2.heap.size W2 W3 := by rw [hW3]; exact below_new (Below.refl _ _) _
 have s3 : W3.heap.size = w.heap.size + 1 + 1 + 1 := by rw [hW3]; simp [s2]
 have O2 : W3.heap[w.heap.size + 1 + 1]? = some (.cells #[.int .i64 0, .string ⟨#[]⟩, .int .i64 0, .string ⟨#[]⟩, .string ⟨#[]⟩, .slice none 0 0, .slice none 0 0] 25 (0, 0)) := by rw [hW3, ← s2]; exact heap_alloc_new W2 _
 have HB3 : Hid (Below w.heap.size w W3) := Lib.hid (below_over B2 B3)
 have hns : n = t.subs.length := by rw [hn, hlen]
 have X0 : W3.heap[w.heap.size]? = some (.cells #[.int .i64 t.kind, .string t.pkg, .int .i64 t.major, .string t.mod, .string t.name, .slice An n cA, .slice As n cS] 25 (0, 0)) := by
  rw [show (#[.int .i64 t.kind, .string t.pkg, .int .i64 t.major, .string t.mod, .string t.name, .slice An n cA, .slice As n cS] : Array Value) = #[.int .i64 t.kind, .string t.pkg, .int .i64 t.major, .string t.mod, .string t.name, .slice An t.names.length cA, .slice As t.subs.length cS] by rw [hns, hlen]]
  exact (B3.block _ (by omega)).trans O0
 have HXC0 : Hid (∀ wx, Below W3.heap.size W3 wx → wx.heap[w.heap.size]? = some (.cells #[.int .i64 t.kind, .string t.pkg, .int .i64 t.major, .string t.mod, .string t.name, .slice An n cA, .slice As n cS] 25 (0, 0))) := Lib.hid (fun wx hb => (hb.block _ (by omega)).trans X0)
 have HXC1 : Hid (∀ wx, Below W3.heap.size W3 wx → wx.heap[w.heap.size + 1]? = some (.cells #[.int .i64 x.kind, .string x.pkg, .int .i64 x.major, .string x.mod, .string x.name, .slice Fn x.names.length cF, .slice Fs x.subs.length dF] 25 (0, 0))) := Lib.hid (fun wx hb => (hb.block _ (by omega)).trans ((B3.block _ (by omega)).trans O1))
 have HR : Hid (∀ wx, Below W3.heap.size W3 wx → wx.heap[w.heap.size + 1 + 1]? = some (.cells #[.int .i64 0, .string ⟨#[]⟩, .int .i64 0, .string ⟨#[]⟩, .string ⟨#[]⟩, .slice none 0 0, .slice none 0 0] 25 (0, 0))) := Lib.hid (fun wx hb => (hb.block _ (by omega)).trans O2)
 have HW : Hid (((w.alloc (.cells #[.int .i64 t.kind, .string t.pkg, .int .i64 t.major, .string t.mod, .string t.name, .slice An t.names.length cA, .slice As t.subs.length cS] 25)).alloc (.cells #[.int .i64 x.kind, .string x.pkg, .int .i64 x.major, .string x.mod, .string x.name, .slice Fn x.names.length cF, .slice Fs x.subs.length dF] 25)).alloc (.cells #[.int .i64 0, .string ⟨#[]⟩, .int .i64 0, .string ⟨#[]⟩, .string ⟨#[]⟩, .slice none 0 0, .slice none 0 0] 25) = W3) := Lib.hid (by rw [hW3, hW2])
 have HS3 := Lib.hid s3
 have HNN := Lib.hid (And.intro hn hns)
 have hn2 : n ≤ 20000 := by rw [hn]; exact hz
 have hw3 : w.heap.size ≤ W3.heap.size := by omega
 have START : Hid (PuI S w W3 [] [] none 0 none 0 W3) := Lib.hid ⟨Below.refl _ _, RowB.start _ _ _ _, RowB.start _ _ _ _, fun b hb => by simp [Value.ownBlock] at hb⟩
 have HMV : Hid (∀ (wx : World) (l : List Value) (y : Ty), Below W3.heap.size W3 wx → TyAt (strike S w) l y → TyAt (strike (fun k => S k ∨ w.heap.size ≤ k) wx) l y) := Lib.hid (fun wx l y hb h => h.move (Nat.le_trans hw3 hb.size) fun b hlt hSb => ⟨fun e => e.elim hSb (fun e => by omega), (hb.block b (by omega)).trans (HB3.out.block b hlt)⟩)
 clear hW2 hW3 B2 B3 O0 O1 O2 s2 s3 hl2 hT hX X0 hn hns hNt hSt hS hs hlen hz zp zm zn
 go_enter Try.func30, Try.ntmps30
 go_upto_region 1 with fail
 rw [HW.out]
 clear HW
 go_wp2_with fail
 go_loopw [7, 8, 9, 10] (fun s7 s8 s9 s10 wr => ∃ (k n5 n6 : Nat) (ns : List ByteArray) (xs : List Ty) (A5 : Option Addr) (c5 : Nat) (A6 : Option Addr) (c6 : Nat) (dn : Bool), k ≤ n ∧ n5 ≤ 20001 ∧ n6 ≤ 20001 ∧ Hid (n5 = k + (if dn = true then 1 else 0)) ∧ s7 = .slice A5 n5 c5 ∧ s8 = .slice A6 n6 c6 ∧ s9 = .bool dn ∧ s10 = .int .i64 k ∧ Hid (n5 = ns.length) ∧ Hid (n6 = xs.length) ∧ Hid (n6 = n5) ∧ Hid (PuI S w W3 ns xs A5 c5 A6 c6 wr) ∧ Hid (insP s x t.names t.subs = (ns ++ (insR dn s x (t.names.drop k) (t.subs.drop k)).1, xs ++ (insR dn s x (t.names.drop k) (t.subs.drop k)).2))) (fun _ _ _ s10 _ => n - (intOf s10).toNat)
 case atStart => exact ⟨0, 0, 0, [], [], none, 0, none, 0, false, by omega, by omega, by omega, Lib.hid rfl, rfl, rfl, rfl, rfl, Lib.hid rfl, Lib.hid rfl, Lib.hid rfl, START, Lib.hid (by simp [insR])⟩
 case round =>
  obtain ⟨k, n5, n6, ns, xs, A5, c5, A6, c6, dn, hkn, h5, h6, HCT, rfl, rfl, rfl, rfl, HL5, HL6, HL56, HI, HE⟩ := hrel
  obtain ⟨wo, rfl⟩ : ∃ wo : World, wo = wr := ⟨_, rfl⟩
  by_cases hlt : k < n
  ·obtain ⟨nm, hnm⟩ : ∃ nm, t.names[k]? = some nm := at_some (by rw [← HNN.out.1]; exact hlt)
   obtain ⟨y, hy⟩ : ∃ y, t.subs[k]? = some y := at_some (by rw [← HNN.out.2]; exact hlt)
   have HD : Hid (t.names.drop k = nm :: t.names.drop (k + 1) ∧ t.subs.drop k = y :: t.subs.drop (k + 1)) := Lib.hid ⟨by
    obtain ⟨h1, h2⟩ := List.getElem?_eq_some_iff.1 hnm
    rw [List.drop_eq_getElem_cons h1, h2], by
    obtain ⟨h1, h2⟩ := List.getElem?_eq_some_iff.1 hy
    rw [List.drop_eq_getElem_cons h1, h2]⟩
   obtain ⟨gn, on, rfl, hgn, hcn, hzn⟩ := HN.out k nm hnm
   have HZN := Lib.hid hzn
   have HNM : Hid (gn < w.heap.size ∧ w.cell? ⟨gn, on + k, none⟩ = some (.string nm)) := Lib.hid ⟨by rw [strike_size] at hgn; exact hgn, (strike_cell.1 hcn).2⟩
   obtain ⟨g1, o1, u0, u1, u2, u3, u4, u5, u6, rfl, hg1, h0, h1, h2, h3, h4, h5', h6', hy7⟩ := HU.out k y hy
   obtain ⟨Gn, cG, Gs, dG, rfl, rfl, rfl, rfl, rfl, rfl, rfl⟩ := hy7.seven
   have HY := Lib.hid hy7
   have HYC : Hid (∀ wx, Below w.heap.size w wx → wx.cell? ⟨g1, o1 + k * 7, none⟩ = some (.int .i64 y.kind) ∧ wx.cell? ⟨g1, o1 + k * 7 + 1, none⟩ = some (.string y.pkg) ∧ wx.cell? ⟨g1, o1 + k * 7 + 2, none⟩ = some (.int .i64 y.major) ∧ wx.cell? ⟨g1, o1 + k * 7 + 3, none⟩ = some (.string y.mod) ∧ wx.cell? ⟨g1, o1 + k * 7 + 4, none⟩ = some (.string y.name) ∧ wx.cell? ⟨g1, o1 + k * 7 + 5, none⟩ = some (.slice Gn y.names.length cG) ∧ wx.cell? ⟨g1, o1 + k * 7 + 6, none⟩ = some (.slice Gs y.subs.length dG)) := Lib.hid (fun wx hb => by
    have hg1' : g1 < w.heap.size := by rw [strike_size] at hg1; exact hg1
    have t1 := fun (q : Nat) (v : Value) (hv : (strike S w).cell? ⟨g1, q, none⟩ = some v) => (hb.cell (p := ⟨g1, q, none⟩) hg1').trans (strike_cell.1 hv).2
    exact ⟨t1 _ _ h0, t1 _ _ h1, t1 _ _ h2, t1 _ _ h3, t1 _ _ h4, t1 _ _ h5', t1 _ _ h6'⟩)
   have hk0 : (0 : Int) ≤ k := by omega
   have hk1 : (k : Int) < n := by omega
   clear hnm hy hgn hcn hzn hg1 h0 h1 h2 h3 h4 h5' h6' hy7
   cases dn with
   | true =>
    have X0 := HXC0.out wo HI.out.below
    have x5 := Lib.cell_of_heap X0 5
    have x6 := Lib.cell_of_heap X0 6
    simp at x5 x6
    clear X0
    have hb0 := below_over HB3.out HI.out.below
    have cn : wo.cell? ⟨gn, on + k, none⟩ = some (.string nm) := (hb0.cell (p := ⟨gn, _, none⟩) HNM.out.1).trans HNM.out.2
    obtain ⟨f0, f1, f2, f3, f4, f5, f6⟩ := HYC.out wo hb0
    clear hb0
    obtain ⟨C, hC1, hown, hC4⟩ := HI.out.names.cells
    have hown : wo.ownsRow W3.heap.size 9 1 (.slice A5 n5 c5) n5 C.flatten := by rw [HL5.out]; exact hown
    obtain ⟨inf, g1', g2', g3', g4'⟩ := info_parts str_info9
    have hMX : n5 + 1 ≤ maxLen := by unfold maxLen; omega
    have hsz := HI.out.below.size
    have hAL : ∀ oo, W3.heap.size ≤ (wo.alloc oo).heap.size := fun oo => by have e1 : (wo.alloc oo).heap.size = wo.heap.size + 1 := (by simp); omega
    go_upto_region 12 with (first | (refine wpList_append_lies _ rfl (.tmp 37) (.tmp 43) 22 rfl W3.heap.size 9 inf _ 1 16 Try.underlying22 g1' g2' g3' g4' (by rfl) (Nat.zero_lt_succ 0) (.slice A5 n5 c5) n5 _ rfl (hown.alloc _) ⟨wo.heap.size, 0, none⟩ 1 1 [.string nm] rfl rfl (fun q u hq => by rw [WideShapes.add_plain, Nat.zero_add, Lib.cell_of_heap (heap_alloc_new wo _), ← hq, ← List.getElem?_toArray]) (fun u hu => by simp at hu; subst hu; rfl) Nat.one_pos hMX (by omega) (hAL _) _ rfl ?_; intro gq1 pq1 v1 hown5 hgrow hat hlt5; rw [HL5.out] at hown5 hgrow hat; replace HI := Lib.hid (HI.out.name HZN.out hC1 hC4 hown5 hgrow hat); clear hown5 hgrow hat hlt5))
    replace HL5 : Hid (n5 + 1 = (ns ++ [nm]).length) := Lib.hid (by rw [List.length_append, ← HL5.out]; rfl)
    clear hown hC1 hC4 g1' g2' g3' g4' hMX hsz hAL
    clear x5 x6 cn f0 f1 f2 f3 f4 f5 f6
    have X0 := HXC0.out v1 HI.out.below
    have x5 := Lib.cell_of_heap X0 5
    have x6 := Lib.cell_of_heap X0 6
    simp at x5 x6
    clear X0
    have hb0 := below_over HB3.out HI.out.below
    have cn : v1.cell? ⟨gn, on + k, none⟩ = some (.string nm) := (hb0.cell (p := ⟨gn, _, none⟩) HNM.out.1).trans HNM.out.2
    obtain ⟨f0, f1, f2, f3, f4, f5, f6⟩ := HYC.out v1 hb0
    clear hb0
    obtain ⟨C, hC1, hown, hC4⟩ := HI.out.types.cells
    have hown : v1.ownsRow W3.heap.size 25 7 (.slice A6 n6 c6) n6 C.flatten := by rw [HL6.out]; exact hown
    obtain ⟨inf, g1', g2', g3', g4'⟩ := info_parts typ_info
    have hMX : n6 + 1 ≤ maxLen := by unfold maxLen; omega
    have hsz := HI.out.below.size
    have hAL : ∀ oo, W3.heap.size ≤ (v1.alloc oo).heap.size := fun oo => by have e1 : (v1.alloc oo).heap.size = v1.heap.size + 1 := (by simp); omega
    go_wp2_with (first | (refine wpList_append_lies _ rfl (.tmp 45) (.tmp 51) 23 rfl W3.heap.size 25 inf _ 7 112 Try.underlying23 g1' g2' g3' g4' (by rfl) (Nat.zero_lt_succ 6) (.slice A6 n6 c6) n6 _ rfl (hown.alloc _) ⟨v1.heap.size, 0, none⟩ 1 1 [.int .i64 y.kind, .string y.pkg, .int .i64 y.major, .string y.mod, .string y.name, .slice Gn y.names.length cG, .slice Gs y.subs.length dG] rfl rfl (fun q u hq => by rw [WideShapes.add_plain, Nat.zero_add, Lib.cell_of_heap (heap_alloc_new v1 _), ← hq, ← List.getElem?_toArray]) (fun u hu => by simp at hu; rcases hu with rfl | rfl | rfl | rfl | rfl | rfl | rfl <;> rfl) Nat.one_pos hMX (by omega) (hAL _) _ rfl ?_; intro gq2 pq2 v2 hown5 hgrow hat hlt5; rw [HL6.out] at hown5 hgrow hat; replace HI := Lib.hid (HI.out.type hw3 HSS.out (HMV.out _ _ _ HI.out.below HY.out) hC1 hC4 hown5 hgrow hat); clear hown5 hgrow hat hlt5))
    replace HL6 : Hid (n6 + 1 = (xs ++ [y]).length) := Lib.hid (by rw [List.length_append, ← HL6.out]; rfl)
    clear hown hC1 hC4 g1' g2' g3' g4' hMX hsz hAL
    clear x5 x6 cn f0 f1 f2 f3 f4 f5 f6
    have EQ : Hid (insP s x t.names t.subs = ((ns ++ [nm]) ++ (insR true s x (t.names.drop (k + 1)) (t.subs.drop (k + 1))).1, (xs ++ [y]) ++ (insR true s x (t.names.drop (k + 1)) (t.subs.drop (k + 1))).2)) := Lib.hid (by
     rw [HE.out, HD.out.1, HD.out.2]
     simp [insR, List.append_assoc])
    have HLL : Hid ((n6 + 1) = (n5 + 1)) := Lib.hid (by rw [HL56.out])
    go_wp2_with fail
    go_roundw
    case rel => exact ⟨k + 1, (n5 + 1), (n6 + 1), (ns ++ [nm]), (xs ++ [y]), (some ⟨gq1, 0, none⟩), pq1, (some ⟨gq2, 0, none⟩), pq2, true, by omega, by have h := HCT.out; simp at h; omega, by have h := HCT.out; have h7 := HL56.out; simp at h; omega, Lib.hid (by have h := HCT.out; simp at h ⊢; omega), rfl, rfl, rfl, by go_num, HL5, HL6, HLL, HI, EQ⟩
    case measure => simp [intOf]; omega
   | false =>
    by_cases hls : LtS s nm
    ·have hbl : Op.bytesLess s.toList nm.toList = true := by rw [bless_lts]; exact decide_eq_true hls
     have HLS := Lib.hid hls
     clear hls
     have X0 := HXC0.out wo HI.out.below
     have x5 := Lib.cell_of_heap X0 5
     have x6 := Lib.cell_of_heap X0 6
     simp at x5 x6
     clear X0
     have hb0 := below_over HB3.out HI.out.below
     have cn : wo.cell? ⟨gn, on + k, none⟩ = some (.string nm) := (hb0.cell (p := ⟨gn, _, none⟩) HNM.out.1).trans HNM.out.2
     obtain ⟨f0, f1, f2, f3, f4, f5, f6⟩ := HYC.out wo hb0
     clear hb0
     obtain ⟨C, hC1, hown, hC4⟩ := HI.out.names.cells
     have hown : wo.ownsRow W3.heap.size 9 1 (.slice A5 n5 c5) n5 C.flatten := by rw [HL5.out]; exact hown
     obtain ⟨inf, g1', g2', g3', g4'⟩ := info_parts str_info9
     have hMX : n5 + 1 ≤ maxLen := by unfold maxLen; omega
     have hsz := HI.out.below.size
     have hAL : ∀ oo, W3.heap.size ≤ (wo.alloc oo).heap.size := fun oo => by have e1 : (wo.alloc oo).heap.size = wo.heap.size + 1 := (by simp); omega
     go_upto_region 9 with (first | (refine wpList_append_lies _ rfl (.tmp 29) (.tmp 31) 22 rfl W3.heap.size 9 inf _ 1 16 Try.underlying22 g1' g2' g3' g4' (by rfl) (Nat.zero_lt_succ 0) (.slice A5 n5 c5) n5 _ rfl (hown.alloc _) ⟨wo.heap.size, 0, none⟩ 1 1 [.string s] rfl rfl (fun q u hq => by rw [WideShapes.add_plain, Nat.zero_add, Lib.cell_of_heap (heap_alloc_new wo _), ← hq, ← List.getElem?_toArray]) (fun u hu => by simp at hu; subst hu; rfl) Nat.one_pos hMX (by omega) (hAL _) _ rfl ?_; intro gq1 pq1 v1 hown5 hgrow hat hlt5; rw [HL5.out] at hown5 hgrow hat; replace HI := Lib.hid (HI.out.name HZS.out hC1 hC4 hown5 hgrow hat); clear hown5 hgrow hat hlt5))
     replace HL5 : Hid (n5 + 1 = (ns ++ [s]).length) := Lib.hid (by rw [List.length_append, ← HL5.out]; rfl)
     clear hown hC1 hC4 g1' g2' g3' g4' hMX hsz hAL
     clear x5 x6 cn f0 f1 f2 f3 f4 f5 f6
     have X1 := HXC1.out v1 HI.out.below
     have m0 := Lib.cell_of_heap X1 0
     have m1 := Lib.cell_of_heap X1 1
     have m2 := Lib.cell_of_heap X1 2
     have m3 := Lib.cell_of_heap X1 3
     have m4 := Lib.cell_of_heap X1 4
     have m5 := Lib.cell_of_heap X1 5
     have m6 := Lib.cell_of_heap X1 6
     simp at m0 m1 m2 m3 m4 m5 m6
     clear X1
     obtain ⟨C, hC1, hown, hC4⟩ := HI.out.types.cells
     have hown : v1.ownsRow W3.heap.size 25 7 (.slice A6 n6 c6) n6 C.flatten := by rw [HL6.out]; exact hown
     obtain ⟨inf, g1', g2', g3', g4'⟩ := info_parts typ_info
     have hMX : n6 + 1 ≤ maxLen := by unfold maxLen; omega
     have hsz := HI.out.below.size
     have hAL : ∀ oo, W3.heap.size ≤ (v1.alloc oo).heap.size := fun oo => by have e1 : (v1.alloc oo).heap.size = v1.heap.size + 1 := (by simp); omega
     go_upto_region 11 with (first | (refine wpList_append_lies _ rfl (.tmp 33) (.tmp 35) 23 rfl W3.heap.size 25 inf _ 7 112 Try.underlying23 g1' g2' g3' g4' (by rfl) (Nat.zero_lt_succ 6) (.slice A6 n6 c6) n6 _ rfl (hown.alloc _) ⟨v1.heap.size, 0, none⟩ 1 1 [.int .i64 x.kind, .string x.pkg, .int .i64 x.major, .string x.mod, .string x.name, .slice Fn x.names.length cF, .slice Fs x.subs.length dF] rfl rfl (fun q u hq => by rw [WideShapes.add_plain, Nat.zero_add, Lib.cell_of_heap (heap_alloc_new v1 _), ← hq, ← List.getElem?_toArray]) (fun u hu => by simp at hu; rcases hu with rfl | rfl | rfl | rfl | rfl | rfl | rfl <;> rfl) Nat.one_pos hMX (by omega) (hAL _) _ rfl ?_; intro gq2 pq2 v2 hown5 hgrow hat hlt5; rw [HL6.out] at hown5 hgrow hat; replace HI := Lib.hid (HI.out.type hw3 HSS.out (HMV.out _ _ _ HI.out.below HX.out) hC1 hC4 hown5 hgrow hat); clear hown5 hgrow hat hlt5))
     replace HL6 : Hid (n6 + 1 = (xs ++ [x]).length) := Lib.hid (by rw [List.length_append, ← HL6.out]; rfl)
     clear hown hC1 hC4 g1' g2' g3' g4' hMX hsz hAL
     clear m0 m1 m2 m3 m4 m5 m6
     have X0 := HXC0.out v2 HI.out.below
     have x5 := Lib.cell_of_heap X0 5
     have x6 := Lib.cell_of_heap X0 6
     simp at x5 x6
     clear X0
     have hb0 := below_over HB3.out HI.out.below
     have cn : v2.cell? ⟨gn, on + k, none⟩ = some (.string nm) := (hb0.cell (p := ⟨gn, _, none⟩) HNM.out.1).trans HNM.out.2
     obtain ⟨f0, f1, f2, f3, f4, f5, f6⟩ := HYC.out v2 hb0
     clear hb0
     obtain ⟨C, hC1, hown, hC4⟩ := HI.out.names.cells
     have hown : v2.ownsRow W3.heap.size 9 1 (.slice (some ⟨gq1, 0, none⟩) (n5 + 1) pq1) (n5 + 1) C.flatten := by rw [HL5.out]; exact hown
     obtain ⟨inf, g1', g2', g3', g4'⟩ := info_parts str_info9
     have hMX : (n5 + 1) + 1 ≤ maxLen := by unfold maxLen; omega
     have hsz := HI.out.below.size
     have hAL : ∀ oo, W3.heap.size ≤ (v2.alloc oo).heap.size := fun oo => by have e1 : (v2.alloc oo).heap.size = v2.heap.size + 1 := (by simp); omega
     go_upto_region 12 with (first | (refine wpList_append_lies _ rfl (.tmp 37) (.tmp 43) 22 rfl W3.heap.size 9 inf _ 1 16 Try.underlying22 g1' g2' g3' g4' (by rfl) (Nat.zero_lt_succ 0) (.slice (some ⟨gq1, 0, none⟩) (n5 + 1) pq1) (n5 + 1) _ rfl (hown.alloc _) ⟨v2.heap.size, 0, none⟩ 1 1 [.string nm] rfl rfl (fun q u hq => by rw [WideShapes.add_plain, Nat.zero_add, Lib.cell_of_heap (heap_alloc_new v2 _), ← hq, ← List.getElem?_toArray]) (fun u hu => by simp at hu; subst hu; rfl) Nat.one_pos hMX (by omega) (hAL _) _ rfl ?_; intro gq3 pq3 v3 hown5 hgrow hat hlt5; rw [HL5.out] at hown5 hgrow hat; replace HI := Lib.hid (HI.out.name HZN.out hC1 hC4 hown5 hgrow hat); clear hown5 hgrow hat hlt5))
     replace HL5 : Hid ((n5 + 1) + 1 = ((ns ++ [s]) ++ [nm]).length) := Lib.hid (by rw [List.length_append, ← HL5.out]; rfl)
     clear hown hC1 hC4 g1' g2' g3' g4' hMX hsz hAL
     clear x5 x6 cn f0 f1 f2 f3 f4 f5 f6
     have X0 := HXC0.out v3 HI.out.below
     have x5 := Lib.cell_of_heap X0 5
     have x6 := Lib.cell_of_heap X0 6
     simp at x5 x6
     clear X0
     have hb0 := below_over HB3.out HI.out.below
     have cn : v3.cell? ⟨gn, on + k, none⟩ = some (.string nm) := (hb0.cell (p := ⟨gn, _, none⟩) HNM.out.1).trans HNM.out.2
     obtain ⟨f0, f1, f2, f3, f4, f5, f6⟩ := HYC.out v3 hb0
     clear hb0
     obtain ⟨C, hC1, hown, hC4⟩ := HI.out.types.cells
     have hown : v3.ownsRow W3.heap.size 25 7 (.slice (some ⟨gq2, 0, none⟩) (n6 + 1) pq2) (n6 + 1) C.flatten := by rw [HL6.out]; exact hown
     obtain ⟨inf, g1', g2', g3', g4'⟩ := info_parts typ_info
     have hMX : (n6 + 1) + 1 ≤ maxLen := by unfold maxLen; omega
     have hsz := HI.out.below.size
     have hAL : ∀ oo, W3.heap.size ≤ (v3.alloc oo).heap.size := fun oo => by have e1 : (v3.alloc oo).heap.size = v3.heap.size + 1 := (by simp); omega
     go_wp2_with (first | (refine wpList_append_lies _ rfl (.tmp 45) (.tmp 51) 23 rfl W3.heap.size 25 inf _ 7 112 Try.underlying23 g1' g2' g3' g4' (by rfl) (Nat.zero_lt_succ 6) (.slice (some ⟨gq2, 0, none⟩) (n6 + 1) pq2) (n6 + 1) _ rfl (hown.alloc _) ⟨v3.heap.size, 0, none⟩ 1 1 [.int .i64 y.kind, .string y.pkg, .int .i64 y.major, .string y.mod, .string y.name, .slice Gn y.names.length cG, .slice Gs y.subs.length dG] rfl rfl (fun q u hq => by rw [WideShapes.add_plain, Nat.zero_add, Lib.cell_of_heap (heap_alloc_new v3 _), ← hq, ← List.getElem?_toArray]) (fun u hu => by simp at hu; rcases hu with rfl | rfl | rfl | rfl | rfl | rfl | rfl <;> rfl) Nat.one_pos hMX (by omega) (hAL _) _ rfl ?_; intro gq4 pq4 v4 hown5 hgrow hat hlt5; rw [HL6.out] at hown5 hgrow hat; replace HI := Lib.hid (HI.out.type hw3 HSS.out (HMV.out _ _ _ HI.out.below HY.out) hC1 hC4 hown5 hgrow hat); clear hown5 hgrow hat hlt5))
     replace HL6 : Hid ((n6 + 1) + 1 = ((xs ++ [x]) ++ [y]).length) := Lib.hid (by rw [List.length_append, ← HL6.out]; rfl)
     clear hown hC1 hC4 g1' g2' g3' g4' hMX hsz hAL
     clear x5 x6 cn f0 f1 f2 f3 f4 f5 f6
     have EQ : Hid (insP s x t.names t.subs = (((ns ++ [s]) ++ [nm]) ++ (insR true s x (t.names.drop (k + 1)) (t.subs.drop (k + 1))).1, ((xs ++ [x]) ++ [y]) ++ (insR true s x (t.names.drop (k + 1)) (t.subs.drop (k + 1))).2)) := Lib.hid (by
      rw [HE.out, HD.out.1, HD.out.2]
      simp [insR, insP, HLS.out, List.append_assoc])
     have HLL : Hid (((n6 + 1) + 1) = ((n5 + 1) + 1)) := Lib.hid (by rw [HL56.out])
     go_wp2_with fail
     go_roundw
     case rel => exact ⟨k + 1, ((n5 + 1) + 1), ((n6 + 1) + 1), ((ns ++ [s]) ++ [nm]), ((xs ++ [x]) ++ [y]), (some ⟨gq3, 0, none⟩), pq3, (some ⟨gq4, 0, none⟩), pq4, true, by omega, by have h := HCT.out; simp at h; omega, by have h := HCT.out; have h7 := HL56.out; simp at h; omega, Lib.hid (by have h := HCT.out; simp at h ⊢; omega), rfl, rfl, rfl, by go_num, HL5, HL6, HLL, HI, EQ⟩
     case measure => simp [intOf]; omega
    ·have hbl : Op.bytesLess s.toList nm.toList = false := by rw [bless_lts]; exact decide_eq_false hls
     have HLS := Lib.hid hls
     clear hls
     have X0 := HXC0.out wo HI.out.below
     have x5 := Lib.cell_of_heap X0 5
     have x6 := Lib.cell_of_heap X0 6
     simp at x5 x6
     clear X0
     have hb0 := below_over HB3.out HI.out.below
     have cn : wo.cell? ⟨gn, on + k, none⟩ = some (.string nm) := (hb0.cell (p := ⟨gn, _, none⟩) HNM.out.1).trans HNM.out.2
     obtain ⟨f0, f1, f2, f3, f4, f5, f6⟩ := HYC.out wo hb0
     clear hb0
     obtain ⟨C, hC1, hown, hC4⟩ := HI.out.names.cells
     have hown : wo.ownsRow W3.heap.size 9 1 (.slice A5 n5 c5) n5 C.flatten := by rw [HL5.out]; exact hown
     obtain ⟨inf, g1', g2', g3', g4'⟩ := info_parts str_info9
     have hMX : n5 + 1 ≤ maxLen := by unfold maxLen; omega
     have hsz := HI.out.below.size
     have hAL : ∀ oo, W3.heap.size ≤ (wo.alloc oo).heap.size := fun oo => by have e1 : (wo.alloc oo).heap.size = wo.heap.size + 1 := (by simp); omega
     go_upto_region 12 with (first | (refine wpList_append_lies _ rfl (.tmp 37) (.tmp 43) 22 rfl W3.heap.size 9 inf _ 1 16 Try.underlying22 g1' g2' g3' g4' (by rfl) (Nat.zero_lt_succ 0) (.slice A5 n5 c5) n5 _ rfl (hown.alloc _) ⟨wo.heap.size, 0, none⟩ 1 1 [.string nm] rfl rfl (fun q u hq => by rw [WideShapes.add_plain, Nat.zero_add, Lib.cell_of_heap (heap_alloc_new wo _), ← hq, ← List.getElem?_toArray]) (fun u hu => by simp at hu; subst hu; rfl) Nat.one_pos hMX (by omega) (hAL _) _ rfl ?_; intro gq1 pq1 v1 hown5 hgrow hat hlt5; rw [HL5.out] at hown5 hgrow hat; replace HI := Lib.hid (HI.out.name HZN.out hC1 hC4 hown5 hgrow hat); clear hown5 hgrow hat hlt5))
     replace HL5 : Hid (n5 + 1 = (ns ++ [nm]).length) := Lib.hid (by rw [List.length_append, ← HL5.out]; rfl)
     clear hown hC1 hC4 g1' g2' g3' g4' hMX hsz hAL
     clear x5 x6 cn f0 f1 f2 f3 f4 f5 f6
     have X0 := HXC0.out v1 HI.out.below
     have x5 := Lib.cell_of_heap X0 5
     have x6 := Lib.cell_of_heap X0 6
     simp at x5 x6
     clear X0
     have hb0 := below_over HB3.out HI.out.below
     have cn : v1.cell? ⟨gn, on + k, none⟩ = some (.string nm) := (hb0.cell (p := ⟨gn, _, none⟩) HNM.out.1).trans HNM.out.2
     obtain ⟨f0, f1, f2, f3, f4, f5, f6⟩ := HYC.out v1 hb0
     clear hb0
     obtain ⟨C, hC1, hown, hC4⟩ := HI.out.types.cells
     have hown : v1.ownsRow W3.heap.size 25 7 (.slice A6 n6 c6) n6 C.flatten := by rw [HL6.out]; exact hown
     obtain ⟨inf, g1', g2', g3', g4'⟩ := info_parts typ_info
     have hMX : n6 + 1 ≤ maxLen := by unfold maxLen; omega
     have hsz := HI.out.below.size
     have hAL : ∀ oo, W3.heap.size ≤ (v1.alloc oo).heap.size := fun oo => by have e1 : (v1.alloc oo).heap.size = v1.heap.size + 1 := (by simp); omega
     go_wp2_with (first | (refine wpList_append_lies _ rfl (.tmp 45) (.tmp 51) 23 rfl W3.heap.size 25 inf _ 7 112 Try.underlying23 g1' g2' g3' g4' (by rfl) (Nat.zero_lt_succ 6) (.slice A6 n6 c6) n6 _ rfl (hown.alloc _) ⟨v1.heap.size, 0, none⟩ 1 1 [.int .i64 y.kind, .string y.pkg, .int .i64 y.major, .string y.mod, .string y.name, .slice Gn y.names.length cG, .slice Gs y.subs.length dG] rfl rfl (fun q u hq => by rw [WideShapes.add_plain, Nat.zero_add, Lib.cell_of_heap (heap_alloc_new v1 _), ← hq, ← List.getElem?_toArray]) (fun u hu => by simp at hu; rcases hu with rfl | rfl | rfl | rfl | rfl | rfl | rfl <;> rfl) Nat.one_pos hMX (by omega) (hAL _) _ rfl ?_; intro gq2 pq2 v2 hown5 hgrow hat hlt5; rw [HL6.out] at hown5 hgrow hat; replace HI := Lib.hid (HI.out.type hw3 HSS.out (HMV.out _ _ _ HI.out.below HY.out) hC1 hC4 hown5 hgrow hat); clear hown5 hgrow hat hlt5))
     replace HL6 : Hid (n6 + 1 = (xs ++ [y]).length) := Lib.hid (by rw [List.length_append, ← HL6.out]; rfl)
     clear hown hC1 hC4 g1' g2' g3' g4' hMX hsz hAL
     clear x5 x6 cn f0 f1 f2 f3 f4 f5 f6
     have EQ : Hid (insP s x t.names t.subs = ((ns ++ [nm]) ++ (insR false s x (t.names.drop (k + 1)) (t.subs.drop (k + 1))).1, (xs ++ [y]) ++ (insR false s x (t.names.drop (k + 1)) (t.subs.drop (k + 1))).2)) := Lib.hid (by
      rw [HE.out, HD.out.1, HD.out.2]
      simp [insR, insP, HLS.out, List.append_assoc])
     have HLL : Hid ((n6 + 1) = (n5 + 1)) := Lib.hid (by rw [HL56.out])
     go_wp2_with fail
     go_roundw
     case rel => exact ⟨k + 1, (n5 + 1), (n6 + 1), (ns ++ [nm]), (xs ++ [y]), (some ⟨gq1, 0, none⟩), pq1, (some ⟨gq2, 0, none⟩), pq2, false, by omega, by have h := HCT.out; simp at h; omega, by have h := HCT.out; have h7 := HL56.out; simp at h; omega, Lib.hid (by have h := HCT.out; simp at h ⊢; omega), rfl, rfl, rfl, by go_num, HL5, HL6, HLL, HI, EQ⟩
     case measure => simp [intOf]; omega
  ·have HKN : Hid (k = n) := Lib.hid (by omega)
   have HD : Hid (t.names.drop k = [] ∧ t.subs.drop k = []) := Lib.hid ⟨List.drop_eq_nil_of_le (by rw [← HNN.out.1]; omega), List.drop_eq_nil_of_le (by rw [← HNN.out.2]; omega)⟩
   cases dn with
   | true =>
    have HF : Hid (insP s x t.names t.subs = (ns, xs)) := Lib.hid (by rw [HE.out, HD.out.1, HD.out.2]; simp [insR])
    have X0 := HXC0.out wo HI.out.below
    have x5 := Lib.cell_of_heap X0 5
    have x6 := Lib.cell_of_heap X0 6
    simp at x5 x6
    clear X0
    go_upto_region 13 with fail
    clear x5 x6
    have hwz := HI.out.below.size
    have h3 := HS3.out
    have X0 := HXC0.out wo HI.out.below
    obtain ⟨wa, hwa⟩ : ∃ wa, wa = (wo.setCell ⟨w.heap.size, 5, none⟩ (.slice A5 n5 c5)).setCell ⟨w.heap.size, 6, none⟩ (.slice A6 n6 c6) := ⟨_, rfl⟩
    have XA1 : (wo.setCell ⟨w.heap.size, 5, none⟩ (.slice A5 n5 c5)).heap[w.heap.size]? = some (.cells #[.int .i64 t.kind, .string t.pkg, .int .i64 t.major, .string t.mod, .string t.name, .slice A5 n5 c5, .slice As n cS] 25 (0, 0)) := by
     have := Joins.block_setCell (i := 5) X0 (.slice A5 n5 c5)
     simpa using this
    have XA : wa.heap[w.heap.size]? = some (.cells #[.int .i64 t.kind, .string t.pkg, .int .i64 t.major, .string t.mod, .string t.name, .slice A5 n5 c5, .slice A6 n6 c6] 25 (0, 0)) := by
     have := Joins.block_setCell (i := 6) XA1 (.slice A6 n6 c6)
     rw [hwa]
     simpa using this
    have hot : ∀ b, b ≠ w.heap.size → wa.heap[b]? = wo.heap[b]? := fun b hb => by
     rw [hwa]
     exact (Below.heap_setCell _ _ _ _ (by show b ≠ w.heap.size; exact hb)).trans (Below.heap_setCell _ _ _ _ (by show b ≠ w.heap.size; exact hb))
    have hsa : wa.heap.size = wo.heap.size := by rw [hwa]; simp
    have BA : Below w.heap.size w wa := (below_over HB3.out HI.out.below).trans ⟨by rw [hwa]; rfl, by rw [hwa]; rfl, by rw [hwa]; rfl, by omega, fun b hb => hot b (by omega)⟩
    have X7 : wa.heap[w.heap.size + 1 + 1]? = some (.cells #[.int .i64 0, .string ⟨#[]⟩, .int .i64 0, .string ⟨#[]⟩, .string ⟨#[]⟩, .slice none 0 0, .slice none 0 0] 25 (0, 0)) := (hot _ (by omega)).trans (HR.out wo HI.out.below)
    have hrow : ∀ b, b < wo.heap.size → ¬ ((S b ∨ (w.heap.size ≤ b ∧ b < W3.heap.size))) → ¬ S b ∧ (wa.setRow (w.heap.size + 1 + 1) #[.int .i64 t.kind, .string t.pkg, .int .i64 t.major, .string t.mod, .string t.name, .slice A5 n5 c5, .slice A6 n6 c6]).heap[b]? = wo.heap[b]? := fun b hb hSb => ⟨fun e => hSb (.inl e), (setRow_other _ _ _ _ (fun e => hSb (.inr (by omega)))).trans (hot b (fun e => hSb (.inr (by omega))))⟩
    have FIN : Hid (PuOut S t s x w (.returned (.agg #[.int .i64 t.kind, .string t.pkg, .int .i64 t.major, .string t.mod, .string t.name, .slice A5 n5 c5, .slice A6 n6 c6])) (wa.setRow (w.heap.size + 1 + 1) #[.int .i64 t.kind, .string t.pkg, .int .i64 t.major, .string t.mod, .string t.name, .slice A5 n5 c5, .slice A6 n6 c6])) := Lib.hid (by
     have hput : putT t s x = .mk t.kind t.pkg t.major t.mod t.name ns xs := by unfold putT; rw [HF.out]
     rw [HL5.out, HL6.out] at hrow ⊢
     refine ⟨_, rfl, ?_, setRow_below BA (by omega) _⟩
     rw [hput]
     refine ty_made (t := .mk t.kind t.pkg t.major t.mod t.name ns xs) HZT.out.1 HZT.out.2.1 HZT.out.2.2 (by show (ns).length ≤ _; rw [← HL5.out]; omega) (by show (xs).length ≤ _; rw [← HL6.out]; omega) HI.out.types.cap ?_ ?_
     ·have e1 := HI.out.names.done (S' := fun k => k < W3.heap.size) (fun k hk => ⟨hk, hk⟩)
      exact names_keep e1.names (by rw [size_setRow, hsa]; exact Nat.le_refl _) (fun b hb hSb => hrow b hb (fun e => hSb (by rcases e with e | e; have := HSS.out b e; exact Nat.lt_of_lt_of_le this hw3; exact e.2)))
     ·have e1 := HI.out.types.done (S' := fun k => S k ∨ (w.heap.size ≤ k ∧ k < W3.heap.size)) (fun k hk => ⟨.inl hk, by rcases hk with e | e; have := HSS.out k e; omega; exact e.2⟩)
      exact e1.move (by rw [size_setRow, hsa]; exact Nat.le_refl _) hrow)
    have HWA := Lib.hid hwa
    have HX7 := Lib.hid X7
    have m0 := Lib.cell_of_heap XA 0
    have m1 := Lib.cell_of_heap XA 1
    have m2 := Lib.cell_of_heap XA 2
    have m3 := Lib.cell_of_heap XA 3
    have m4 := Lib.cell_of_heap XA 4
    have m5 := Lib.cell_of_heap XA 5
    have m6 := Lib.cell_of_heap XA 6
    have x5 := Lib.cell_of_heap X0 5
    have x6 := Lib.cell_of_heap X0 6
    have y5 := Lib.frozen_of_heap X0 5
    have y6 := Lib.frozen_of_heap XA1 6
    have z6 := Lib.cell_of_heap XA1 6
    simp at m0 m1 m2 m3 m4 m5 m6 x5 x6 z6
    clear X0 XA1 XA hot hsa BA hrow hwa hwz h3
    go_upto_region 18 with fail
    rw [← HWA.out]
    clear HWA x5 x6 y5 y6 z6
    go_wp2_with (first | ((with_reducible refine wpList_putRow 25 (w.heap.size + 1 + 1) #[.int .i64 t.kind, .string t.pkg, .int .i64 t.major, .string t.mod, .string t.name, .slice A5 n5 c5, .slice A6 n6 c6] _ _ X7 ?_ ?_ ?_ ?_ ?_ ?_); exact tySize; rfl; exact tyOne; (focus (first | (go_simp; done) | rfl)); (focus (first | (go_simp; done) | rfl))))
    exact ret_agg1 (fn := Try.f30) (vs := [.int .i64 t.kind, .string t.pkg, .int .i64 t.major, .string t.mod, .string t.name, .slice A5 n5 c5, .slice A6 n6 c6]) (b := w.heap.size + 1 + 1) rfl rfl Try.underlying25 (by kernel_rfl) (cell7 (setRow_heap _ (w.heap.size + 1 + 1) _ _ _ _ HX7.out)) rfl FIN.out
   | false =>
    have HF : Hid (insP s x t.names t.subs = (ns ++ [s], xs ++ [x])) := Lib.hid (by rw [HE.out, HD.out.1, HD.out.2]; simp [insR, insP])
    have X0 := HXC0.out wo HI.out.below
    have x5 := Lib.cell_of_heap X0 5
    have x6 := Lib.cell_of_heap X0 6
    simp at x5 x6
    clear X0
    go_upto_region 14 with fail
    clear x5 x6
    obtain ⟨C, hC1, hown, hC4⟩ := HI.out.names.cells
    have hown : wo.ownsRow W3.heap.size 9 1 (.slice A5 n5 c5) n5 C.flatten := by rw [HL5.out]; exact hown
    obtain ⟨inf, g1', g2', g3', g4'⟩ := info_parts str_info9
    have hMX : n5 + 1 ≤ maxLen := by unfold maxLen; omega
    have hsz := HI.out.below.size
    have hAL : ∀ oo, W3.heap.size ≤ (wo.alloc oo).heap.size := fun oo => by have e1 : (wo.alloc oo).heap.size = wo.heap.size + 1 := (by simp); omega
    go_upto_region 15 with (first | (refine wpList_append_lies _ rfl (.tmp 55) (.tmp 57) 22 rfl W3.heap.size 9 inf _ 1 16 Try.underlying22 g1' g2' g3' g4' (by rfl) (Nat.zero_lt_succ 0) (.slice A5 n5 c5) n5 _ rfl (hown.alloc _) ⟨wo.heap.size, 0, none⟩ 1 1 [.string s] rfl rfl (fun q u hq => by rw [WideShapes.add_plain, Nat.zero_add, Lib.cell_of_heap (heap_alloc_new wo _), ← hq, ← List.getElem?_toArray]) (fun u hu => by simp at hu; subst hu; rfl) Nat.one_pos hMX (by omega) (hAL _) _ rfl ?_; intro gq1 pq1 v1 hown5 hgrow hat hlt5; rw [HL5.out] at hown5 hgrow hat; replace HI := Lib.hid (HI.out.name HZS.out hC1 hC4 hown5 hgrow hat); clear hown5 hgrow hat hlt5))
    replace HL5 : Hid (n5 + 1 = (ns ++ [s]).length) := Lib.hid (by rw [List.length_append, ← HL5.out]; rfl)
    clear hown hC1 hC4 g1' g2' g3' g4' hMX hsz hAL
    have X1 := HXC1.out v1 HI.out.below
    have m0 := Lib.cell_of_heap X1 0
    have m1 := Lib.cell_of_heap X1 1
    have m2 := Lib.cell_of_heap X1 2
    have m3 := Lib.cell_of_heap X1 3
    have m4 := Lib.cell_of_heap X1 4
    have m5 := Lib.cell_of_heap X1 5
    have m6 := Lib.cell_of_heap X1 6
    simp at m0 m1 m2 m3 m4 m5 m6
    clear X1
    obtain ⟨C, hC1, hown, hC4⟩ := HI.out.types.cells
    have hown : v1.ownsRow W3.heap.size 25 7 (.slice A6 n6 c6) n6 C.flatten := by rw [HL6.out]; exact hown
    obtain ⟨inf, g1', g2', g3', g4'⟩ := info_parts typ_info
    have hMX : n6 + 1 ≤ maxLen := by unfold maxLen; omega
    have hsz := HI.out.below.size
    have hAL : ∀ oo, W3.heap.size ≤ (v1.alloc oo).heap.size := fun oo => by have e1 : (v1.alloc oo).heap.size = v1.heap.size + 1 := (by simp); omega
    go_upto_region 16 with (first | (refine wpList_append_lies _ rfl (.tmp 59) (.tmp 61) 23 rfl W3.heap.size 25 inf _ 7 112 Try.underlying23 g1' g2' g3' g4' (by rfl) (Nat.zero_lt_succ 6) (.slice A6 n6 c6) n6 _ rfl (hown.alloc _) ⟨v1.heap.size, 0, none⟩ 1 1 [.int .i64 x.kind, .string x.pkg, .int .i64 x.major, .string x.mod, .string x.name, .slice Fn x.names.length cF, .slice Fs x.subs.length dF] rfl rfl (fun q u hq => by rw [WideShapes.add_plain, Nat.zero_add, Lib.cell_of_heap (heap_alloc_new v1 _), ← hq, ← List.getElem?_toArray]) (fun u hu => by simp at hu; rcases hu with rfl | rfl | rfl | rfl | rfl | rfl | rfl <;> rfl) Nat.one_pos hMX (by omega) (hAL _) _ rfl ?_; intro gq2 pq2 v2 hown5 hgrow hat hlt5; rw [HL6.out] at hown5 hgrow hat; replace HI := Lib.hid (HI.out.type hw3 HSS.out (HMV.out _ _ _ HI.out.below HX.out) hC1 hC4 hown5 hgrow hat); clear hown5 hgrow hat hlt5))
    replace HL6 : Hid (n6 + 1 = (xs ++ [x]).length) := Lib.hid (by rw [List.length_append, ← HL6.out]; rfl)
    clear hown hC1 hC4 g1' g2' g3' g4' hMX hsz hAL
    clear m0 m1 m2 m3 m4 m5 m6
    have hwz := HI.out.below.size
    have h3 := HS3.out
    have X0 := HXC0.out v2 HI.out.below
    obtain ⟨wa, hwa⟩ : ∃ wa, wa = (v2.setCell ⟨w.heap.size, 5, none⟩ (.slice (some ⟨gq1, 0, none⟩) (n5 + 1) pq1)).setCell ⟨w.heap.size, 6, none⟩ (.slice (some ⟨gq2, 0, none⟩) (n6 + 1) pq2) := ⟨_, rfl⟩
    have XA1 : (v2.setCell ⟨w.heap.size, 5, none⟩ (.slice (some ⟨gq1, 0, none⟩) (n5 + 1) pq1)).heap[w.heap.size]? = some (.cells #[.int .i64 t.kind, .string t.pkg, .int .i64 t.major, .string t.mod, .string t.name, .slice (some ⟨gq1, 0, none⟩) (n5 + 1) pq1, .slice As n cS] 25 (0, 0)) := by
     have := Joins.block_setCell (i := 5) X0 (.slice (some ⟨gq1, 0, none⟩) (n5 + 1) pq1)
     simpa using this
    have XA : wa.heap[w.heap.size]? = some (.cells #[.int .i64 t.kind, .string t.pkg, .int .i64 t.major, .string t.mod, .string t.name, .slice (some ⟨gq1, 0, none⟩) (n5 + 1) pq1, .slice (some ⟨gq2, 0, none⟩) (n6 + 1) pq2] 25 (0, 0)) := by
     have := Joins.block_setCell (i := 6) XA1 (.slice (some ⟨gq2, 0, none⟩) (n6 + 1) pq2)
     rw [hwa]
     simpa using this
    have hot : ∀ b, b ≠ w.heap.size → wa.heap[b]? = v2.heap[b]? := fun b hb => by
     rw [hwa]
     exact (Below.heap_setCell _ _ _ _ (by show b ≠ w.heap.size; exact hb)).trans (Below.heap_setCell _ _ _ _ (by show b ≠ w.heap.size; exact hb))
    have hsa : wa.heap.size = v2.heap.size := by rw [hwa]; simp
    have BA : Below w.heap.size w wa := (below_over HB3.out HI.out.below).trans ⟨by rw [hwa]; rfl, by rw [hwa]; rfl, by rw [hwa]; rfl, by omega, fun b hb => hot b (by omega)⟩
    have X7 : wa.heap[w.heap.size + 1 + 1]? = some (.cells #[.int .i64 0, .string ⟨#[]⟩, .int .i64 0, .string ⟨#[]⟩, .string ⟨#[]⟩, .slice none 0 0, .slice none 0 0] 25 (0, 0)) := (hot _ (by omega)).trans (HR.out v2 HI.out.below)
    have hrow : ∀ b, b < v2.heap.size → ¬ ((S b ∨ (w.heap.size ≤ b ∧ b < W3.heap.size))) → ¬ S b ∧ (wa.setRow (w.heap.size + 1 + 1) #[.int .i64 t.kind, .string t.pkg, .int .i64 t.major, .string t.mod, .string t.name, .slice (some ⟨gq1, 0, none⟩) (n5 + 1) pq1, .slice (some ⟨gq2, 0, none⟩) (n6 + 1) pq2]).heap[b]? = v2.heap[b]? := fun b hb hSb => ⟨fun e => hSb (.inl e), (setRow_other _ _ _ _ (fun e => hSb (.inr (by omega)))).trans (hot b (fun e => hSb (.inr (by omega))))⟩
    have FIN : Hid (PuOut S t s x w (.returned (.agg #[.int .i64 t.kind, .string t.pkg, .int .i64 t.major, .string t.mod, .string t.name, .slice (some ⟨gq1, 0, none⟩) (n5 + 1) pq1, .slice (some ⟨gq2, 0, none⟩) (n6 + 1) pq2])) (wa.setRow (w.heap.size + 1 + 1) #[.int .i64 t.kind, .string t.pkg, .int .i64 t.major, .string t.mod, .string t.name, .slice (some ⟨gq1, 0, none⟩) (n5 + 1) pq1, .slice (some ⟨gq2, 0, none⟩) (n6 + 1) pq2])) := Lib.hid (by
     have hput : putT t s x = .mk t.kind t.pkg t.major t.mod t.name (ns ++ [s]) (xs ++ [x]) := by unfold putT; rw [HF.out]
     rw [HL5.out, HL6.out] at hrow ⊢
     refine ⟨_, rfl, ?_, setRow_below BA (by omega) _⟩
     rw [hput]
     refine ty_made (t := .mk t.kind t.pkg t.major t.mod t.name (ns ++ [s]) (xs ++ [x])) HZT.out.1 HZT.out.2.1 HZT.out.2.2 (by show ((ns ++ [s])).length ≤ _; rw [← HL5.out]; omega) (by show ((xs ++ [x])).length ≤ _; rw [← HL6.out]; omega) HI.out.types.cap ?_ ?_
     ·have e1 := HI.out.names.done (S' := fun k => k < W3.heap.size) (fun k hk => ⟨hk, hk⟩)
      exact names_keep e1.names (by rw [size_setRow, hsa]; exact Nat.le_refl _) (fun b hb hSb => hrow b hb (fun e => hSb (by rcases e with e | e; have := HSS.out b e; exact Nat.lt_of_lt_of_le this hw3; exact e.2)))
     ·have e1 := HI.out.types.done (S' := fun k => S k ∨ (w.heap.size ≤ k ∧ k < W3.heap.size)) (fun k hk => ⟨.inl hk, by rcases hk with e | e; have := HSS.out k e; omega; exact e.2⟩)
      exact e1.move (by rw [size_setRow, hsa]; exact Nat.le_refl _) hrow)
    have HWA := Lib.hid hwa
    have HX7 := Lib.hid X7
    have m0 := Lib.cell_of_heap XA 0
    have m1 := Lib.cell_of_heap XA 1
    have m2 := Lib.cell_of_heap XA 2
    have m3 := Lib.cell_of_heap XA 3
    have m4 := Lib.cell_of_heap XA 4
    have m5 := Lib.cell_of_heap XA 5
    have m6 := Lib.cell_of_heap XA 6
    have x5 := Lib.cell_of_heap X0 5
    have x6 := Lib.cell_of_heap X0 6
    have y5 := Lib.frozen_of_heap X0 5
    have y6 := Lib.frozen_of_heap XA1 6
    have z6 := Lib.cell_of_heap XA1 6
    simp at m0 m1 m2 m3 m4 m5 m6 x5 x6 z6
    clear X0 XA1 XA hot hsa BA hrow hwa hwz h3
    go_upto_region 18 with fail
    rw [← HWA.out]
    clear HWA x5 x6 y5 y6 z6
    go_wp2_with (first | ((with_reducible refine wpList_putRow 25 (w.heap.size + 1 + 1) #[.int .i64 t.kind, .string t.pkg, .int .i64 t.major, .string t.mod, .string t.name, .slice (some ⟨gq1, 0, none⟩) (n5 + 1) pq1, .slice (some ⟨gq2, 0, none⟩) (n6 + 1) pq2] _ _ X7 ?_ ?_ ?_ ?_ ?_ ?_); exact tySize; rfl; exact tyOne; (focus (first | (go_simp; done) | rfl)); (focus (first | (go_simp; done) | rfl))))
    exact ret_agg1 (fn := Try.f30) (vs := [.int .i64 t.kind, .string t.pkg, .int .i64 t.major, .string t.mod, .string t.name, .slice (some ⟨gq1, 0, none⟩) (n5 + 1) pq1, .slice (some ⟨gq2, 0, none⟩) (n6 + 1) pq2]) (b := w.heap.size + 1 + 1) rfl rfl Try.underlying25 (by kernel_rfl) (cell7 (setRow_heap _ (w.heap.size + 1 + 1) _ _ _ _ HX7.out)) rfl FIN.out
end Go.Proofs.Ytcdmgcgjonndpaa

/-  -/
namespace Go.Proofs.Ytcdmgcgjonndpaa
open Go Go.RowKit Go.Shelf
open Go.Sort
open M
def ofB (l : List ByteArray) (s : ByteArray) : Option Nat := l.findIdx? fun x => decide (x = s)
theorem ofB_some {l : List ByteArray} {s : ByteArray} {i : Nat} (h : ofB l s = some i) : l[i]? = some s := by
  unfold ofB at h
  rw [List.findIdx?_eq_some_iff_getElem] at h
  obtain ⟨h1, h2, -⟩ := h
  rw [List.getElem?_eq_getElem h1]
  simpa using h2
theorem ofB_none {l : List ByteArray} {s : ByteArray} (h : ofB l s = none) : s ∉ l := fun hs => by
  unfold ofB at h
  rw [List.findIdx?_eq_none_iff] at h
  have := h s hs
  simp at this
set_option maxRecDepth 100000 in
set_option maxHeartbeats 4000000 in
theorem rof9_any (A : Option Addr) (n c : Nat) (l : List ByteArray) (s : ByteArray) (w : World) (hn : n = l.length) (hz : n ≤ 9223372036854775807) (hN : NamesAt w A l) :
    Calls Try.prog 25 #[.slice A n c, .string s] w fun e w' => e = .returned (.int .i64 (optN (ofB l s))) ∧ Below w.heap.size w w' := by
  have HN := Lib.hid hn
  have HR := Lib.hid hN
  clear hN hn
  go_enter Try.func25, Try.ntmps25
  go_wp2_with fail
  go_loopw [5] (fun s5 wr => ∃ k : Nat, k ≤ n ∧ s5 = .int .i64 k ∧ Hid (∀ x ∈ l.take k, decide (x = s) = false) ∧ Hid (Below w.heap.size w wr)) (fun s5 _ => n - (intOf s5).toNat)
  case atStart => exact ⟨0, by omega, rfl, Lib.hid (by simp), Lib.hid (Below.refl _ _)⟩
  case round =>
    obtain ⟨k, hk, rfl, HNO, HB⟩ := hrel
    obtain ⟨wo, rfl⟩ : ∃ wo : World, wo = wr := ⟨_, rfl⟩
    by_cases hlt : k < n
    · obtain ⟨x, hx⟩ : ∃ x, l[k]? = some x := ⟨_, List.getElem?_eq_getElem (by rw [← HN.out]; exact hlt)⟩
      obtain ⟨g, o, rfl, hg, hc, -⟩ := HR.out k x hx
      have a0 := (HB.out.cell (p := ⟨g, _, none⟩) hg).trans hc
      have hq := str_eq x s
      have HX := Lib.hid hx
      have hk0 : (0 : Int) ≤ k := by omega
      have hk1 : (k : Int) < n := by omega
      clear hx hc
      by_cases hs : x = s
      · have RES : Hid (ofB l s = some k) := Lib.hid (idx_yes HX.out HNO.out (by simp [hs]))
        rw [decide_eq_true hs] at hq
        clear hs
        go_wp2_with fail
        go_ret
        exact ⟨by rw [RES.out]; rfl, HB.out⟩
      · have NX : Hid (∀ y ∈ l.take (k + 1), decide (y = s) = false) := Lib.hid (fun y hy => by
          rw [List.take_add_one, HX.out] at hy
          rcases List.mem_append.1 hy with h | h
          · exact HNO.out y h
          · simp at h; rw [h]; simp [hs])
        rw [decide_eq_false hs] at hq
        clear hs
        go_wp2_with fail
        go_roundw
        case rel => exact ⟨k + 1, by omega, by go_num, NX, HB⟩
        case measure => simp [intOf]; omega
    · have RES : Hid (ofB l s = none) := Lib.hid (idx_no (fun x hx => HNO.out x (by rw [List.take_of_length_le (by rw [← HN.out]; omega)]; exact hx)))
      go_wp2_with fail
      go_ret
      exact ⟨by rw [RES.out]; rfl, HB.out⟩
end Go.Proofs.Ytcdmgcgjonndpaa
