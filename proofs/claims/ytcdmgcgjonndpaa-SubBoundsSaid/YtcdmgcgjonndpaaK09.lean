/-
  Several texts in one:  ·  ·  ·  ·  ·  ·  ·  ·  ·  ·  ·  · 
-/
import Derived.Test.YtcdmgcgjonndpaaK08
import Derived.Deep.DeepCutAuto
import Derived.Test.YtcdmgcgjonndpaaK00
import Derived.Lib.SlicesCompact
import Derived.Test.YtcdmgcgjonndpaaK04
import Derived.Test.YtcdmgcgjonndpaaK05
import Derived.Test.YtcdmgcgjonndpaaK07
import Derived.Test.YtcdmgcgjonndpaaK06
import Derived.DeepKeys3
import Derived.Test.YtcdmgcgjonndpaaK03
/-  -/
namespace Go.Proofs.Ytcdmgcgjonndpaa
open Go Go.RowKit Go.Shelf
open Go.Sort
open M
structure RowB {α : Type} (R : Reads α) (S : Nat → Prop) (lo : Nat) (xs : List α) (A : Option Addr) (c : Nat) (w : World) : Prop where
  cells : ∃ C : List (List Value), C.length = xs.length ∧ w.ownsRow lo R.T R.k (.slice A xs.length c) xs.length C.flatten ∧
    ∀ (i : Nat) (l : List Value) (x : α), C[i]? = some l → xs[i]? = some x → R.E (strike (fun b => S b ∨ (Value.slice A xs.length c).ownBlock = some b) w) l x
theorem RowB.start {α : Type} (R : Reads α) (S : Nat → Prop) (lo : Nat) (w : World) : RowB R S lo [] none 0 w := ⟨[], rfl, World.ownsRow_nil _ _ _ _, fun i l x h => by simp at h⟩
theorem own_block {w w' : World} {B : Nat} {e : TypeId} {z : Nat} {v : Value} {n : Nat} {xs : List Value} (h : w.ownsRow B e z v n xs) (hb : ∀ b, v.ownBlock = some b → w'.heap[b]? = w.heap[b]?) : w'.ownsRow B e z v n xs := by
  refine ⟨h.1, ?_⟩
  rcases h.2 with h | ⟨g, cap, cur, hv, hB, hg, rest⟩
  · exact .inl h
  · exact .inr ⟨g, cap, cur, hv, hB, (hb g (by rw [hv]; rfl)).trans hg, rest⟩
theorem RowB.lt {α : Type} {R : Reads α} {S : Nat → Prop} {lo : Nat} {xs : List α} {A : Option Addr} {c : Nat} {w : World} (h : RowB R S lo xs A c w) {b : Nat} (e : (Value.slice A xs.length c).ownBlock = some b) : lo ≤ b ∧ b < w.heap.size := by
  obtain ⟨C, h1, h3, h4⟩ := h.cells
  exact h3.lt b e
theorem RowB.keep {α : Type} {R : Reads α} {S S' : Nat → Prop} {lo : Nat} {xs : List α} {A : Option Addr} {c : Nat} {w w' : World} (h : RowB R S lo xs A c w) (hz : w.heap.size ≤ w'.heap.size) (ho : ∀ b, (Value.slice A xs.length c).ownBlock = some b → w'.heap[b]? = w.heap[b]?)
    (hb : ∀ b, ¬ S b → (Value.slice A xs.length c).ownBlock ≠ some b → b < w.heap.size → ¬ S' b ∧ w'.heap[b]? = w.heap[b]?) : RowB R S' lo xs A c w' := by
  obtain ⟨C, h1, h3, h4⟩ := h.cells
  refine ⟨C, h1, own_block h3 ho, fun i l x hl hx => R.move _ _ _ _ _ _ (h4 i l x hl hx) hz fun b hlt hS => ?_⟩
  obtain ⟨k1, k2⟩ := hb b (fun e => hS (.inl e)) (fun e => hS (.inr e)) hlt
  exact ⟨fun e => e.elim k1 (fun e => hS (.inr e)), k2⟩
theorem RowB.more {α : Type} {R : Reads α} {S S' : Nat → Prop} {lo g cap c : Nat} {xs : List α} {A : Option Addr} {w1 w3 : World} {o : Obj} {l : List Value} {x : α} {C : List (List Value)}
    (hS' : ∀ b, S b ∨ (Value.slice A xs.length c).ownBlock = some b → S' b) (hSs : ∀ b, S b → b < w1.heap.size)
    (hC1 : C.length = xs.length) (hC4 : ∀ (i : Nat) (l : List Value) (x : α), C[i]? = some l → xs[i]? = some x → R.E (strike (fun b => S b ∨ (Value.slice A xs.length c).ownBlock = some b) w1) l x)
    (hE : R.E (strike S' w1) l x) (hown : w3.ownsRow lo R.T R.k (.slice (some ⟨g, 0, none⟩) (xs.length + 1) cap) (xs.length + 1) (C.flatten ++ l)) (hgrow : (w1.alloc o).grownBy w3 (Value.slice A xs.length c).ownBlock)
    (hat : (Value.slice A xs.length c).ownBlock = some g ∨ g = (w1.alloc o).heap.size) :
    RowB R S lo (xs ++ [x]) (some ⟨g, 0, none⟩) cap w3 ∧ (∀ b, (Value.slice A xs.length c).ownBlock ≠ some b → b < w1.heap.size → w3.heap[b]? = w1.heap[b]?) ∧ w1.heap.size ≤ w3.heap.size := by
  have hsz : (w1.alloc o).heap.size = w1.heap.size + 1 := by simp
  have hsz3 := hgrow.size
  have hold : ∀ b, b < w1.heap.size → (Value.slice A xs.length c).ownBlock ≠ some b → w3.heap[b]? = w1.heap[b]? := fun b hb hne => by
    rw [hgrow.block b (by omega) (fun e => hne e.symm)]
    exact Lib.alloc_old w1 o b hb
  have mv : ∀ l x, R.E (strike (fun b => S b ∨ (Value.slice A xs.length c).ownBlock = some b) w1) l x → R.E (strike (fun b => S b ∨ (Value.slice (some ⟨g, 0, none⟩) (xs ++ [x]).length cap).ownBlock = some b) w3) l x := fun l x hT => by
    refine R.move _ _ _ _ _ _ hT (by omega) fun b hb hS => ⟨?_, hold b hb (fun e => hS (.inr e))⟩
    rintro (e | e)
    · exact hS (.inl e)
    · simp [Value.ownBlock] at e
      subst e
      rcases hat with e | e
      · exact hS (.inr e)
      · omega
  have hT : R.E (strike (fun b => S b ∨ (Value.slice A xs.length c).ownBlock = some b) w1) l x := R.move _ _ _ _ _ _ hE (Nat.le_refl _) fun b hlt hS => ⟨fun e => hS (hS' b e), rfl⟩
  refine ⟨⟨C ++ [l], by simp [hC1], ?_, fun i y u hy hu => ?_⟩, fun b hb hlt => hold b hlt hb, by omega⟩
  · rw [List.length_append]
    simpa using hown
  · rcases Nat.lt_or_ge i xs.length with hi | hi
    · rw [List.getElem?_append_left (by omega)] at hy hu
      have := mv y u (hC4 i y u hy hu)
      simpa [Value.ownBlock] using this
    · have hi' := (List.getElem?_eq_some_iff.1 hy).1
      have : i = xs.length := by simp [hC1] at hi'; omega
      subst this
      rw [List.getElem?_append_right (by omega)] at hy hu
      simp [hC1] at hy
      simp at hu
      rw [← hy, ← hu]
      have := mv l x hT
      simpa [Value.ownBlock] using this
theorem RowB.done {α : Type} {R : Reads α} {S S' : Nat → Prop} {lo : Nat} {xs : List α} {A : Option Addr} {c : Nat} {w : World} (h : RowB R S lo xs A c w) (hS' : ∀ b, S' b → S b ∧ b < lo) : RowIn R (strike S' w) A xs := by
  intro i x hx
  obtain ⟨C, h1, h3, h4⟩ := h.cells
  have hi := (List.getElem?_eq_some_iff.1 hx).1
  have hl : C[i]? = some C[i] := List.getElem?_eq_getElem (by omega)
  have hall : ∀ l, l ∈ C → l.length = R.k := fun l hl => by
    obtain ⟨j, hj⟩ := List.mem_iff_getElem?.1 hl
    have hj' := (List.getElem?_eq_some_iff.1 hj).1
    exact R.len _ _ _ (h4 j l xs[j] hj (List.getElem?_eq_getElem (by omega)))
  have hE := h4 i _ x hl hx
  rcases h3.2 with ⟨e, -⟩ | ⟨g, cap, cur, hv, hB, hg, -, -, hcl, htake⟩
  · cases A with
    | none => simp at e; simp [e.1] at hi
    | some a => simp at e
  · simp at hv
    obtain ⟨rfl, -⟩ := hv
    refine ⟨g, 0, C[i], rfl, ?_, fun j v hv => strike_cell.2 ⟨fun e => by have := (hS' g e).2; omega, ?_⟩, R.move _ _ _ _ _ _ hE (Nat.le_refl _) fun b hlt hS => ⟨fun e => hS (.inl (hS' b e).1), rfl⟩⟩
    · rw [strike_size]; exact (Array.getElem?_eq_some_iff.1 hg).1
    · have hj := (List.getElem?_eq_some_iff.1 hv).1
      rw [hall _ (List.getElem_mem (by omega))] at hj
      have hf := flatk_at C hall i j _ hl hj
      rw [Lib.cell_of_heap hg, ← Array.getElem?_toList]
      have e2 : (cur.toList.take (xs.length * R.k))[i * R.k + j]? = C[i][j]? := by rw [htake, hf]
      rw [List.getElem?_take] at e2
      split at e2
      · rw [show 0 + i * R.k + j = i * R.k + j by omega, e2]; exact hv
      · rename_i hn
        have : (i + 1) * R.k ≤ xs.length * R.k := Nat.mul_le_mul_right _ hi
        rw [Nat.succ_mul] at this
        omega
theorem RowB.cap {α : Type} {R : Reads α} {S : Nat → Prop} {lo : Nat} {xs : List α} {A : Option Addr} {c : Nat} {w : World} (h : RowB R S lo xs A c w) : xs.length ≤ c := by
  obtain ⟨C, -, h3, -⟩ := h.cells
  rcases h3.2 with ⟨e, h0⟩ | ⟨g, cap, cur, hv, -, -, hnc, -⟩
  · omega
  · simp at hv; omega
end Go.Proofs.Ytcdmgcgjonndpaa

/-  -/
namespace Go.Proofs.Ytcdmgcgjonndpaa
open Go Go.RowKit Go.Shelf
open Go.Sort
open M
def BdCall (w0 : World) (f : FuncId) (up : Bool) (x y : Ty) : Prop := ∀ (lx ly : List Value) (w : World), TyAt w0 lx x → TyAt w0 ly y → Below w0.heap.size w0 w → Calls Try.prog f #[.agg lx.toArray, .agg ly.toArray] w (BdOut w0 up x y w)
structure PwI (w0 w : World) (up : Bool) (a b : Ty) (xs : List Ty) (A6 : Option Addr) (c6 : Nat) (wr : World) : Prop where
  below : Below w.heap.size w wr
  box : wr.heap[w.heap.size + 1 + 1 + 1]? = some (.cells #[.int .i64 a.kind, .string ⟨#[]⟩, .int .i64 0, .string ⟨#[]⟩, .string ⟨#[]⟩, .slice none 0 0, .slice A6 xs.length c6] 25 (0, 0))
  rows : RowB tR (fun k => w0.heap.size ≤ k ∧ k < w.heap.size + 1 + 1 + 1 + 1) (w.heap.size + 1 + 1 + 1 + 1) xs A6 c6 wr
  bnd : ∀ i x y z, a.subs[i]? = some x → b.subs[i]? = some y → xs[i]? = some z → IsBnd (if i + 1 = a.subs.length then up else !up) x y z
set_option maxRecDepth 100000 in
set_option maxHeartbeats 16000000 in
theorem partwiseJ_leaf (w0 : World) (a b : Ty) (la lb : List Value) (w : World) (ga : GoodT a) (gb : GoodT b) (hk : a.kind = b.kind) (h4 : a.kind ≠ 4) (h5 : a.kind ≠ 5) (h6 : a.kind ≠ 6) (h7 : a.kind ≠ 7) (hTa : TyAt w0 la a) (hTb : TyAt w0 lb b) (hw0 : Below w0.heap.size w0 w) :
    Calls Try.prog 43 #[.agg la.toArray, .agg lb.toArray, .func (.func 27) #[] #[], .func (.func 28) #[] #[]] w (BdOut w0 true a b w) := by
  have HTa := Lib.hid hTa
  have HTb := Lib.hid hTb
  have HW0 := Lib.hid hw0
  have hlen : a.subs.length = 0 := by rw [(ga.leaf h4 h5 h6 h7).1]; rfl
  obtain ⟨An, cA, As, cS, rfl, -⟩ := hTa.parts
  obtain ⟨Bn, cB, Bs, cD, rfl, -⟩ := hTb.parts
  obtain ⟨W2, hW2, B2, O0, O1, hl2⟩ := two_boxes w #[.int .i64 a.kind, .string a.pkg, .int .i64 a.major, .string a.mod, .string a.name, .slice An a.names.length cA, .slice As a.subs.length cS] #[.int .i64 b.kind, .string b.pkg, .int .i64 b.major, .string b.mod, .string b.name, .slice Bn b.names.length cB, .slice Bs b.subs.length cD] 25 25
  have s2 : W2.heap.size = w.heap.size + 1 + 1 := by rw [hW2]; simp
  obtain ⟨W3, hW3⟩ : ∃ W3, W3 = W2.alloc (.cells #[.int .i64 0, .string ⟨#[]⟩, .int .i64 0, .string ⟨#[]⟩, .string ⟨#[]⟩, .slice none 0 0, .slice none 0 0] 25) := ⟨_, rfl⟩
  have B3 : Below W2.heap.size W2 W3 := by rw [hW3]; exact below_new (Below.refl _ _) _
  have s3 : W3.heap.size = w.heap.size + 1 + 1 + 1 := by rw [hW3]; simp [s2]
  have O2 : W3.heap[w.heap.size + 1 + 1]? = some (.cells #[.int .i64 0, .string ⟨#[]⟩, .int .i64 0, .string ⟨#[]⟩, .string ⟨#[]⟩, .slice none 0 0, .slice none 0 0] 25 (0, 0)) := by rw [hW3, ← s2]; exact heap_alloc_new W2 _
  have HB3 : Hid (Below w.heap.size w W3) := Lib.hid (below_over B2 B3)
  have X0 : W3.heap[w.heap.size]? = some (.cells #[.int .i64 a.kind, .string a.pkg, .int .i64 a.major, .string a.mod, .string a.name, .slice An a.names.length cA, .slice As a.subs.length cS] 25 (0, 0)) := (B3.block _ (by omega)).trans O0
  have X1 : W3.heap[w.heap.size + 1]? = some (.cells #[.int .i64 b.kind, .string b.pkg, .int .i64 b.major, .string b.mod, .string b.name, .slice Bn b.names.length cB, .slice Bs b.subs.length cD] 25 (0, 0)) := (B3.block _ (by omega)).trans O1
  have HR : Hid (∀ wx, Below W3.heap.size W3 wx → wx.heap[w.heap.size + 1 + 1]? = some (.cells #[.int .i64 0, .string ⟨#[]⟩, .int .i64 0, .string ⟨#[]⟩, .string ⟨#[]⟩, .slice none 0 0, .slice none 0 0] 25 (0, 0))) := Lib.hid (fun wx hb => (hb.block _ (by omega)).trans O2)
  have HW : Hid (((w.alloc (.cells #[.int .i64 a.kind, .string a.pkg, .int .i64 a.major, .string a.mod, .string a.name, .slice An a.names.length cA, .slice As a.subs.length cS] 25)).alloc (.cells #[.int .i64 b.kind, .string b.pkg, .int .i64 b.major, .string b.mod, .string b.name, .slice Bn b.names.length cB, .slice Bs b.subs.length cD] 25)).alloc (.cells #[.int .i64 0, .string ⟨#[]⟩, .int .i64 0, .string ⟨#[]⟩, .string ⟨#[]⟩, .slice none 0 0, .slice none 0 0] 25) = W3) := Lib.hid (by rw [hW3, hW2])
  have HS3 := Lib.hid s3
  have CC := Lib.hid (same9_any w0 true a b _ _ W3 ga gb hk h4 h5 h6 h7 HTa.out HTb.out (below_over hw0 HB3.out))
  have x0 := Lib.cell_of_heap X0 0
  have x1 := Lib.cell_of_heap X0 1
  have x2 := Lib.cell_of_heap X0 2
  have x3 := Lib.cell_of_heap X0 3
  have x4 := Lib.cell_of_heap X0 4
  have x5 := Lib.cell_of_heap X0 5
  have x6 := Lib.cell_of_heap X0 6
  have y0 := Lib.cell_of_heap X1 0
  have y1 := Lib.cell_of_heap X1 1
  have y2 := Lib.cell_of_heap X1 2
  have y3 := Lib.cell_of_heap X1 3
  have y4 := Lib.cell_of_heap X1 4
  have y5 := Lib.cell_of_heap X1 5
  have y6 := Lib.cell_of_heap X1 6
  simp at x0 x1 x2 x3 x4 x5 x6 y0 y1 y2 y3 y4 y5 y6
  have HLEN := Lib.hid hlen
  have z6 : W3.cell? ⟨w.heap.size, 6, none⟩ = some (.slice As 0 cS) := by rw [← hlen]; exact x6
  rw [hlen] at CC
  rw [hlen]
  clear hW2 hW3 B2 B3 O0 O1 O2 s2 s3 hl2 hTa hTb ga gb hk h4 h5 h6 h7 hw0 X0 X1 x6 hlen
  go_enter Try.func43, Try.ntmps43
  go_upto_region 1 with fail
  have HWW := HW.out
  rw [HLEN.out] at HWW
  rw [HWW]
  clear HW HWW
  go_wp2_with fail
  refine CC.out.mono ?_; rintro e w4 ⟨l, q, rfl, hb4, hcase⟩
  have hsh : ∃ v, ShL l v := by
    rcases hcase with ⟨-, t, -, hT⟩ | ⟨-, rfl, -⟩
    · obtain ⟨Fn, cF, Fs, dF, rfl, -⟩ := hT.parts
      exact ⟨t, Fn, cF, Fs, dF, rfl⟩
    · exact ⟨zTy, none, 0, none, 0, rfl⟩
  obtain ⟨v, Fn, cF, Fs, dF, rfl⟩ := hsh
  have X7 := HR.out w4 hb4
  have HX7 := Lib.hid X7
  have FIN : Hid (BdOut w0 true a b w (.returned (.tuple #[.agg #[.int .i64 v.kind, .string v.pkg, .int .i64 v.major, .string v.mod, .string v.name, .slice Fn v.names.length cF, .slice Fs v.subs.length dF], .bool q])) (w4.setRow (w.heap.size + 1 + 1) #[.int .i64 v.kind, .string v.pkg, .int .i64 v.major, .string v.mod, .string v.name, .slice Fn v.names.length cF, .slice Fs v.subs.length dF])) := Lib.hid (by
    have hs3 := HS3.out
    refine ⟨_, q, rfl, setRow_below (below_over HB3.out hb4) (by omega) _, ?_⟩
    rcases hcase with ⟨h1, t, h2, hT⟩ | h
    · refine .inl ⟨h1, t, h2, hT.move (by rw [size_setRow]; exact Nat.le_refl _) fun k hk hS => ⟨fun e => hS ⟨e.1, by omega⟩, setRow_other _ _ _ _ (fun e => hS ⟨by have := HW0.out.size; omega, by omega⟩)⟩⟩
    · exact .inr h)
  clear x0 x1 x2 x3 x4 x5 z6 y0 y1 y2 y3 y4 y5 y6 hb4 hcase CC
  go_wp2_with (first | ((with_reducible refine wpList_putRow 25 (w.heap.size + 1 + 1) #[.int .i64 v.kind, .string v.pkg, .int .i64 v.major, .string v.mod, .string v.name, .slice Fn v.names.length cF, .slice Fs v.subs.length dF] _ _ X7 ?_ ?_ ?_ ?_ ?_ ?_); exact tySize; rfl; exact tyOne; (focus (first | (go_simp; done) | rfl)); (focus (first | (go_simp; done) | rfl))))
  exact ret_agg (fn := Try.f43) (vs := [.int .i64 v.kind, .string v.pkg, .int .i64 v.major, .string v.mod, .string v.name, .slice Fn v.names.length cF, .slice Fs v.subs.length dF]) (b := w.heap.size + 1 + 1) rfl rfl rfl Try.underlying25 (by kernel_rfl) (cell7 (setRow_heap _ (w.heap.size + 1 + 1) _ _ _ _ HX7.out)) rfl FIN.out
set_option maxRecDepth 100000 in
set_option maxHeartbeats 16000000 in
theorem partwiseM_leaf (w0 : World) (a b : Ty) (la lb : List Value) (w : World) (ga : GoodT a) (gb : GoodT b) (hk : a.kind = b.kind) (h4 : a.kind ≠ 4) (h5 : a.kind ≠ 5) (h6 : a.kind ≠ 6) (h7 : a.kind ≠ 7) (hTa : TyAt w0 la a) (hTb : TyAt w0 lb b) (hw0 : Below w0.heap.size w0 w) :
    Calls Try.prog 43 #[.agg la.toArray, .agg lb.toArray, .func (.func 28) #[] #[], .func (.func 27) #[] #[]] w (BdOut w0 false a b w) := by
  have HTa := Lib.hid hTa
  have HTb := Lib.hid hTb
  have HW0 := Lib.hid hw0
  have hlen : a.subs.length = 0 := by rw [(ga.leaf h4 h5 h6 h7).1]; rfl
  obtain ⟨An, cA, As, cS, rfl, -⟩ := hTa.parts
  obtain ⟨Bn, cB, Bs, cD, rfl, -⟩ := hTb.parts
  obtain ⟨W2, hW2, B2, O0, O1, hl2⟩ := two_boxes w #[.int .i64 a.kind, .string a.pkg, .int .i64 a.major, .string a.mod, .string a.name, .slice An a.names.length cA, .slice As a.subs.length cS] #[.int .i64 b.kind, .string b.pkg, .int .i64 b.major, .string b.mod, .string b.name, .slice Bn b.names.length cB, .slice Bs b.subs.length cD] 25 25
  have s2 : W2.heap.size = w.heap.size + 1 + 1 := by rw [hW2]; simp
  obtain ⟨W3, hW3⟩ : ∃ W3, W3 = W2.alloc (.cells #[.int .i64 0, .string ⟨#[]⟩, .int .i64 0, .string ⟨#[]⟩, .string ⟨#[]⟩, .slice none 0 0, .slice none 0 0] 25) := ⟨_, rfl⟩
  have B3 : Below W2.heap.size W2 W3 := by rw [hW3]; exact below_new (Below.refl _ _) _
  have s3 : W3.heap.size = w.heap.size + 1 + 1 + 1 := by rw [hW3]; simp [s2]
  have O2 : W3.heap[w.heap.size + 1 + 1]? = some (.cells #[.int .i64 0, .string ⟨#[]⟩, .int .i64 0, .string ⟨#[]⟩, .string ⟨#[]⟩, .slice none 0 0, .slice none 0 0] 25 (0, 0)) := by rw [hW3, ← s2]; exact heap_alloc_new W2 _
  have HB3 : Hid (Below w.heap.size w W3) := Lib.hid (below_over B2 B3)
  have X0 : W3.heap[w.heap.size]? = some (.cells #[.int .i64 a.kind, .string a.pkg, .int .i64 a.major, .string a.mod, .string a.name, .slice An a.names.length cA, .slice As a.subs.length cS] 25 (0, 0)) := (B3.block _ (by omega)).trans O0
  have X1 : W3.heap[w.heap.size + 1]? = some (.cells #[.int .i64 b.kind, .string b.pkg, .int .i64 b.major, .string b.mod, .string b.name, .slice Bn b.names.length cB, .slice Bs b.subs.length cD] 25 (0, 0)) := (B3.block _ (by omega)).trans O1
  have HR : Hid (∀ wx, Below W3.heap.size W3 wx → wx.heap[w.heap.size + 1 + 1]? = some (.cells #[.int .i64 0, .string ⟨#[]⟩, .int .i64 0, .string ⟨#[]⟩, .string ⟨#[]⟩, .slice none 0 0, .slice none 0 0] 25 (0, 0))) := Lib.hid (fun wx hb => (hb.block _ (by omega)).trans O2)
  have HW : Hid (((w.alloc (.cells #[.int .i64 a.kind, .string a.pkg, .int .i64 a.major, .string a.mod, .string a.name, .slice An a.names.length cA, .slice As a.subs.length cS] 25)).alloc (.cells #[.int .i64 b.kind, .string b.pkg, .int .i64 b.major, .string b.mod, .string b.name, .slice Bn b.names.length cB, .slice Bs b.subs.length cD] 25)).alloc (.cells #[.int .i64 0, .string ⟨#[]⟩, .int .i64 0, .string ⟨#[]⟩, .string ⟨#[]⟩, .slice none 0 0, .slice none 0 0] 25) = W3) := Lib.hid (by rw [hW3, hW2])
  have HS3 := Lib.hid s3
  have CC := Lib.hid (same9_any w0 false a b _ _ W3 ga gb hk h4 h5 h6 h7 HTa.out HTb.out (below_over hw0 HB3.out))
  have x0 := Lib.cell_of_heap X0 0
  have x1 := Lib.cell_of_heap X0 1
  have x2 := Lib.cell_of_heap X0 2
  have x3 := Lib.cell_of_heap X0 3
  have x4 := Lib.cell_of_heap X0 4
  have x5 := Lib.cell_of_heap X0 5
  have x6 := Lib.cell_of_heap X0 6
  have y0 := Lib.cell_of_heap X1 0
  have y1 := Lib.cell_of_heap X1 1
  have y2 := Lib.cell_of_heap X1 2
  have y3 := Lib.cell_of_heap X1 3
  have y4 := Lib.cell_of_heap X1 4
  have y5 := Lib.cell_of_heap X1 5
  have y6 := Lib.cell_of_heap X1 6
  simp at x0 x1 x2 x3 x4 x5 x6 y0 y1 y2 y3 y4 y5 y6
  have HLEN := Lib.hid hlen
  have z6 : W3.cell? ⟨w.heap.size, 6, none⟩ = some (.slice As 0 cS) := by rw [← hlen]; exact x6
  rw [hlen] at CC
  rw [hlen]
  clear hW2 hW3 B2 B3 O0 O1 O2 s2 s3 hl2 hTa hTb ga gb hk h4 h5 h6 h7 hw0 X0 X1 x6 hlen
  go_enter Try.func43, Try.ntmps43
  go_upto_region 1 with fail
  have HWW := HW.out
  rw [HLEN.out] at HWW
  rw [HWW]
  clear HW HWW
  go_wp2_with fail
  refine CC.out.mono ?_; rintro e w4 ⟨l, q, rfl, hb4, hcase⟩
  have hsh : ∃ v, ShL l v := by
    rcases hcase with ⟨-, t, -, hT⟩ | ⟨-, rfl, -⟩
    · obtain ⟨Fn, cF, Fs, dF, rfl, -⟩ := hT.parts
      exact ⟨t, Fn, cF, Fs, dF, rfl⟩
    · exact ⟨zTy, none, 0, none, 0, rfl⟩
  obtain ⟨v, Fn, cF, Fs, dF, rfl⟩ := hsh
  have X7 := HR.out w4 hb4
  have HX7 := Lib.hid X7
  have FIN : Hid (BdOut w0 false a b w (.returned (.tuple #[.agg #[.int .i64 v.kind, .string v.pkg, .int .i64 v.major, .string v.mod, .string v.name, .slice Fn v.names.length cF, .slice Fs v.subs.length dF], .bool q])) (w4.setRow (w.heap.size + 1 + 1) #[.int .i64 v.kind, .string v.pkg, .int .i64 v.major, .string v.mod, .string v.name, .slice Fn v.names.length cF, .slice Fs v.subs.length dF])) := Lib.hid (by
    have hs3 := HS3.out
    refine ⟨_, q, rfl, setRow_below (below_over HB3.out hb4) (by omega) _, ?_⟩
    rcases hcase with ⟨h1, t, h2, hT⟩ | h
    · refine .inl ⟨h1, t, h2, hT.move (by rw [size_setRow]; exact Nat.le_refl _) fun k hk hS => ⟨fun e => hS ⟨e.1, by omega⟩, setRow_other _ _ _ _ (fun e => hS ⟨by have := HW0.out.size; omega, by omega⟩)⟩⟩
    · exact .inr h)
  clear x0 x1 x2 x3 x4 x5 z6 y0 y1 y2 y3 y4 y5 y6 hb4 hcase CC
  go_wp2_with (first | ((with_reducible refine wpList_putRow 25 (w.heap.size + 1 + 1) #[.int .i64 v.kind, .string v.pkg, .int .i64 v.major, .string v.mod, .string v.name, .slice Fn v.names.length cF, .slice Fs v.subs.length dF] _ _ X7 ?_ ?_ ?_ ?_ ?_ ?_); exact tySize; rfl; exact tyOne; (focus (first | (go_simp; done) | rfl)); (focus (first | (go_simp; done) | rfl))))
  exact ret_agg (fn := Try.f43) (vs := [.int .i64 v.kind, .string v.pkg, .int .i64 v.major, .string v.mod, .string v.name, .slice Fn v.names.length cF, .slice Fs v.subs.length dF]) (b := w.heap.size + 1 + 1) rfl rfl rfl Try.underlying25 (by kernel_rfl) (cell7 (setRow_heap _ (w.heap.size + 1 + 1) _ _ _ _ HX7.out)) rfl FIN.out
end Go.Proofs.Ytcdmgcgjonndpaa

/-  -/
namespace Go.Proofs.Ytcdmgcgjonndpaa
open Go Go.RowKit Go.Shelf
open Go.Sort
open M
def outT (a : Ty) (xs : List Ty) : Ty := .mk a.kind ⟨#[]⟩ 0 ⟨#[]⟩ ⟨#[]⟩ [] xs
def PwR (w0 wo : World) (up : Bool) (x y : Ty) (b : Nat) (l : List Value) (q : Bool) (wx : World) : Prop :=
  wx.heap[b]? = some (.cells l.toArray 25 (0, 0)) ∧ wo.heap.size ≤ b ∧ Below wo.heap.size wo wx ∧ (∃ v, ShL l v) ∧ ((q = true ∧ ∃ t, IsBnd up x y t ∧ TyAt (strike (fun k => w0.heap.size ≤ k ∧ k < wo.heap.size) wx) l t) ∨ (q = false ∧ NoBnd up x y))
theorem PwR.made {w0 wo wa w2 w3 : World} {up q : Bool} {x y : Ty} {b : Nat} {l : List Value} (hb2 : Below wa.heap.size wa w2) (h : (q = true ∧ ∃ t, IsBnd up x y t ∧ TyAt (strike (fun k => w0.heap.size ≤ k ∧ k < wa.heap.size) w2) l t) ∨ (q = false ∧ l = [.int .i64 0, .string ⟨#[]⟩, .int .i64 0, .string ⟨#[]⟩, .string ⟨#[]⟩, .slice none 0 0, .slice none 0 0] ∧ NoBnd up x y)) (hsh : ∃ v, ShL l v) (h0 : w0.heap.size ≤ wo.heap.size) (ha : wo.heap.size ≤ wa.heap.size) (hb : wo.heap.size ≤ b) (hb' : b < wa.heap.size ∨ w2.heap.size ≤ b) (hX : w3.heap[b]? = some (.cells l.toArray 25 (0, 0))) (hB : Below wo.heap.size wo w3) (h3 : ∀ x, x < w2.heap.size → x ≠ b → w3.heap[x]? = w2.heap[x]?) (hz : w2.heap.size ≤ w3.heap.size) : PwR w0 wo up x y b l q w3 := by
  refine ⟨hX, hb, hB, hsh, ?_⟩
  rcases h with ⟨h1, t, h2, hT⟩ | ⟨h1, -, h2⟩
  · exact .inl ⟨h1, t, h2, hT.move hz fun k hk hS => ⟨fun e => hS ⟨e.1, by omega⟩, h3 k hk (fun e => hS ⟨by omega, by omega⟩)⟩⟩
  · exact .inr ⟨h1, h2⟩
theorem bd_shape {w0 wa w2 : World} {up q : Bool} {x y : Ty} {l : List Value} (h : (q = true ∧ ∃ t, IsBnd up x y t ∧ TyAt (strike (fun k => w0.heap.size ≤ k ∧ k < wa.heap.size) w2) l t) ∨ (q = false ∧ l = [.int .i64 0, .string ⟨#[]⟩, .int .i64 0, .string ⟨#[]⟩, .string ⟨#[]⟩, .slice none 0 0, .slice none 0 0] ∧ NoBnd up x y)) : ∃ v, ShL l v := by
  rcases h with ⟨-, t, -, hT⟩ | ⟨-, rfl, -⟩
  · obtain ⟨Fn, cF, Fs, dF, rfl, -⟩ := hT.parts
    exact ⟨t, Fn, cF, Fs, dF, rfl⟩
  · exact ⟨zTy, none, 0, none, 0, rfl⟩
theorem PwI.done {w0 w wr : World} {up : Bool} {a b : Ty} {xs : List Ty} {A6 : Option Addr} {c6 : Nat} (h : PwI w0 w up a b xs A6 c6 wr) (ga : GoodT a) (hk : a.kind = b.kind) (h47 : a.kind = 4 ∨ a.kind = 7) (hl : xs.length = a.subs.length) (hl2 : a.subs.length = b.subs.length) (hz : xs.length ≤ 9223372036854775807) (h0 : w0.heap.size ≤ w.heap.size) :
    BdOut w0 up a b w (.returned (.tuple #[.agg #[.int .i64 a.kind, .string ⟨#[]⟩, .int .i64 0, .string ⟨#[]⟩, .string ⟨#[]⟩, .slice none 0 0, .slice A6 xs.length c6], .bool true])) (wr.setRow (w.heap.size + 1 + 1) #[.int .i64 a.kind, .string ⟨#[]⟩, .int .i64 0, .string ⟨#[]⟩, .string ⟨#[]⟩, .slice none 0 0, .slice A6 xs.length c6]) := by
  refine ⟨[.int .i64 a.kind, .string ⟨#[]⟩, .int .i64 0, .string ⟨#[]⟩, .string ⟨#[]⟩, .slice none 0 0, .slice A6 xs.length c6], true, rfl, setRow_below h.below (by omega) _, .inl ⟨rfl, outT a xs, ?_, ?_⟩⟩
  · exact bnd_parts h47 ga hk rfl ⟨rfl, rfl, rfl, rfl⟩ rfl hl2 hl.symm fun i x y z hx hy hz => h.bnd i x y z hx hy hz
  · exact ty_made (t := outT a xs) (by show (⟨#[]⟩ : ByteArray).size ≤ 9223372036854775807; decide) (by show (⟨#[]⟩ : ByteArray).size ≤ 9223372036854775807; decide) (by show (⟨#[]⟩ : ByteArray).size ≤ 9223372036854775807; decide) (by show ([] : List ByteArray).length ≤ 9223372036854775807; decide) hz h.rows.cap (fun i s hs => by simp [outT, Ty.names] at hs) ((h.rows.done (S' := fun k => w0.heap.size ≤ k ∧ k < w.heap.size + 1 + 1 + 1 + 1) (fun k hk => ⟨hk, hk.2⟩)).move (by rw [size_setRow]; exact Nat.le_refl _) fun k hlt hS => ⟨fun e => hS ⟨e.1, by omega⟩, setRow_other _ _ _ _ (fun e => hS ⟨by omega, by omega⟩)⟩)
end Go.Proofs.Ytcdmgcgjonndpaa

/-  -/
namespace Go.Proofs.Ytcdmgcgjonndpaa
open Go
open Go.Sort
open M
def ordU (l : List ByteArray) : List (List UInt8) := (l.map (·.data.toList)).mergeSort fun x y => decide (x ≤ y)
theorem ordU_len (l : List ByteArray) : (ordU l).length = l.length := by unfold ordU; rw [List.length_mergeSort, List.length_map]
def uniS (l : List ByteArray) : List (List UInt8) := Lib.compact (ordU l)
def uniN (l : List ByteArray) : List ByteArray := (uniS l).map fun x => ⟨x.toArray⟩
theorem compact_up {zs : List (List UInt8)} (h : zs.Pairwise (· ≤ ·)) : (Lib.compact zs).Pairwise (· < ·) := by
  unfold Lib.compact Lib.compactUpTo
  rw [List.pairwise_map]
  refine (List.Pairwise.filter (Lib.keeps zs.toArray) (List.pairwise_lt_range (n := zs.length))).imp_of_mem ?_
  intro i j hi hj hij
  have hj1 := (List.mem_filter.1 hj).1
  have hj2 := (List.mem_filter.1 hj).2
  have hi1 := (List.mem_filter.1 hi).1
  simp at hj1 hi1
  have hne : zs.toArray[j]! ≠ zs.toArray[j - 1]! := by
    unfold Lib.keeps at hj2
    have := of_decide_eq_true hj2
    rcases this with e | e
    · omega
    · exact e
  have e0 : zs.toArray[i]! = zs[i] := by rw [getElem!_pos _ _ (by simpa using hi1)]; simp
  have e1 : zs.toArray[j]! = zs[j] := by rw [getElem!_pos _ _ (by simpa using hj1)]; simp
  have e2 : zs.toArray[j - 1]! = zs[j - 1]'(by omega) := by rw [getElem!_pos _ _ (by simp; omega)]; simp
  rw [e1, e2] at hne
  rw [e0, e1]
  have hle : zs[j - 1]'(by omega) ≤ zs[j] := List.pairwise_iff_getElem.1 h (j - 1) j (by omega) hj1 (by omega)
  have hlt : zs[j - 1]'(by omega) < zs[j] := by
    by_cases c : zs[j - 1]'(by omega) < zs[j]
    · exact c
    · exact absurd (List.le_antisymm (α := UInt8) c hle) hne
  by_cases e : i = j - 1
  · subst e; exact hlt
  · have := List.pairwise_iff_getElem.1 h i (j - 1) hi1 (by omega) (by omega)
    exact List.lt_of_le_of_lt this hlt
theorem compact_mem {zs : List (List UInt8)} (x : List UInt8) : x ∈ Lib.compact zs ↔ x ∈ zs := by
  unfold Lib.compact Lib.compactUpTo
  rw [List.mem_map]
  constructor
  · rintro ⟨i, hi, rfl⟩
    have := (List.mem_filter.1 hi).1
    simp at this
    rw [getElem!_pos _ _ (by simpa using this)]
    simp
  · intro hx
    obtain ⟨i, hi⟩ := List.getElem?_of_mem hx
    have key : ∀ (i : Nat), zs[i]? = some x → ∃ a, a ∈ (List.range zs.length).filter (Lib.keeps zs.toArray) ∧ zs.toArray[a]! = x := by
      intro i
      induction i with
      | zero =>
        intro h
        obtain ⟨h1, h2⟩ := List.getElem?_eq_some_iff.1 h
        exact ⟨0, List.mem_filter.2 ⟨by simpa using h1, by simp [Lib.keeps]⟩, by rw [getElem!_pos _ _ (by simpa using h1)]; simpa using h2⟩
      | succ i ih =>
        intro h
        obtain ⟨h1, h2⟩ := List.getElem?_eq_some_iff.1 h
        have e1 : zs.toArray[i + 1]! = x := by rw [getElem!_pos _ _ (by simpa using h1)]; simpa using h2
        cases hk : Lib.keeps zs.toArray (i + 1) with
        | true => exact ⟨i + 1, List.mem_filter.2 ⟨by simpa using h1, hk⟩, e1⟩
        | false =>
          unfold Lib.keeps at hk
          have hk := of_decide_eq_false hk
          simp only [not_or, Decidable.not_not, Nat.add_sub_cancel, ne_eq] at hk
          refine ih ?_
          have e2 := hk.2.symm.trans e1
          rw [getElem!_pos _ _ (by simp; omega)] at e2
          rw [List.getElem?_eq_some_iff]
          exact ⟨by omega, by simpa using e2⟩
    exact key i hi
theorem ordU_up (l : List ByteArray) : (ordU l).Pairwise (· ≤ ·) := by
  unfold ordU
  refine (List.pairwise_mergeSort (fun a b c h1 h2 => ?_) (fun a b => ?_) _).imp (fun h => of_decide_eq_true h)
  · exact decide_eq_true (List.le_trans (of_decide_eq_true h1) (of_decide_eq_true h2))
  · rcases List.le_total a b with h | h
    · simp [h]
    · simp [h]
theorem uniN_rise (l : List ByteArray) : Rising (uniN l) := by
  unfold uniN uniS
  show List.Pairwise _ _
  rw [List.pairwise_map]
  refine (compact_up (ordU_up l)).imp fun h => ?_
  show LtS _ _
  unfold LtS
  simpa using h
theorem uniN_mem (l : List ByteArray) (s : ByteArray) : s ∈ uniN l ↔ s ∈ l := by
  unfold uniN uniS
  rw [List.mem_map]
  constructor
  · rintro ⟨x, hx, rfl⟩
    rw [compact_mem] at hx
    unfold ordU at hx
    rw [List.mem_mergeSort, List.mem_map] at hx
    obtain ⟨y, hy, rfl⟩ := hx
    have : (⟨y.data.toList.toArray⟩ : ByteArray) = y := by cases y; simp
    rw [this]; exact hy
  · intro hs
    refine ⟨s.data.toList, (compact_mem _).2 ?_, by cases s; simp⟩
    unfold ordU
    rw [List.mem_mergeSort]
    exact List.mem_map_of_mem hs
theorem uniS_le (l : List ByteArray) : (uniS l).length ≤ l.length := by
  unfold uniS Lib.compact Lib.compactUpTo
  rw [List.length_map]
  refine Nat.le_trans (List.length_filter_le _ _) ?_
  simp [ordU_len]
theorem uniN_len (l : List ByteArray) : (uniN l).length = (uniS l).length := by unfold uniN; simp
end Go.Proofs.Ytcdmgcgjonndpaa

/-  -/
namespace Go.Proofs.Ytcdmgcgjonndpaa
open Go.RowKit
open Go.Sort
open M
end Go.Proofs.Ytcdmgcgjonndpaa

/-  -/
namespace Go.Proofs.Ytcdmgcgjonndpaa
open Go Go.RowKit Go.Shelf
open Go.Sort Go.Maps
open M
end Go.Proofs.Ytcdmgcgjonndpaa

/-  -/
namespace Go.Proofs.Ytcdmgcgjonndpaa
open Go Go.RowKit Go.Shelf
open Go.Sort Go.Maps
open M
end Go.Proofs.Ytcdmgcgjonndpaa

/-  -/
namespace Go.Proofs.Ytcdmgcgjonndpaa
open Go Go.RowKit Go.Shelf
open Go.Sort Go.Maps
open M
end Go.Proofs.Ytcdmgcgjonndpaa

/-  -/
namespace Go.Proofs.Ytcdmgcgjonndpaa
open Go Go.RowKit Go.Shelf
open Go.Sort Go.Maps
open M
section
variable {ops : Array Oper} {rest : List Oper} {o : Oper} {act : Act} {Q : Exit → Act → World → Prop}
end
end Go.Proofs.Ytcdmgcgjonndpaa

/-  -/
namespace Go.Proofs.Ytcdmgcgjonndpaa
open Go Go.RowKit Go.Shelf
open Go.Sort Go.Maps
open M
section
variable {ops : Array Oper} {rest : List Oper} {o : Oper} {act : Act} {Q : Exit → Act → World → Prop}
end
theorem row_grown {w w' : World} {r : Option Nat} (h : w.grownBy w' r) {b : Nat} (hb : w.heap.size ≤ b) (vs : Array Value) : w.grownBy (w'.setRow b vs) r :=
  ⟨h.os, h.tape, h.output, by rw [size_setRow]; exact h.size, fun k hk hne => (setRow_other _ _ _ _ (by omega)).trans (h.block k hk hne)⟩
end Go.Proofs.Ytcdmgcgjonndpaa

/-  -/
namespace Go.Proofs.Ytcdmgcgjonndpaa
open Go Go.RowKit Go.Shelf
open Go.Sort Go.Maps
open M
theorem below_grow {w0 w w' : World} {kb : Nat} (h : Below w0.heap.size w0 w) (hg : w.grownBy w' (some kb)) (hk : w0.heap.size ≤ kb) : Below w0.heap.size w0 w' :=
  ⟨hg.os.trans h.os, hg.tape.trans h.tape, hg.output.trans h.output, Nat.le_trans h.size hg.size, fun b hb => (hg.block b (Nat.lt_of_lt_of_le hb h.size) (fun e => by cases e; omega)).trans (h.block b hb)⟩
end Go.Proofs.Ytcdmgcgjonndpaa

/-  -/
namespace Go.Proofs.Ytcdmgcgjonndpaa
open Go Go.RowKit Go.Shelf
open Go.Sort Go.Maps
open M
end Go.Proofs.Ytcdmgcgjonndpaa

/-  -/
namespace Go.Proofs.Ytcdmgcgjonndpaa
open Go Go.RowKit Go.Shelf
open Go.Sort Go.Maps
open M
abbrev cpO (L : Int) (mv : Value) : Obj := .cells #[.int .i64 L, mv] 47 (0, 0)
mutual
def fitT : Ty → Prop
  | .mk _ p _ d n ns ss => (p.size ≤ 281474976710656 ∧ d.size ≤ 281474976710656 ∧ n.size ≤ 281474976710656 ∧ ns.length ≤ 200 ∧ ∀ s ∈ ns, s.size ≤ 281474976710656) ∧ fitL ss
def fitL : List Ty → Prop
  | [] => True
  | t :: r => fitT t ∧ fitL r
end
theorem fitL_mem : ∀ l : List Ty, fitL l ↔ ∀ t ∈ l, fitT t
  | [] => by simp [fitL]
  | t :: r => by simp [fitL, fitL_mem r]
theorem fitT_own {t : Ty} (h : fitT t) : (t.pkg.size ≤ 281474976710656 ∧ t.mod.size ≤ 281474976710656 ∧ t.name.size ≤ 281474976710656 ∧ t.names.length ≤ 200 ∧ ∀ s ∈ t.names, s.size ≤ 281474976710656) ∧ ∀ s ∈ t.subs, fitT s := by
  cases t with
  | mk k p m d n ns ss =>
    unfold fitT at h
    exact ⟨h.1, (fitL_mem ss).1 h.2⟩
def leftAt (L : Int) (ss : List Ty) (i : Nat) : Int := L - ss.length - manyL (ss.take i) + i
theorem manyL_drop : ∀ (l : List Ty) (i : Nat), manyL l = manyL (l.take i) + manyL (l.drop i)
  | [], i => by simp [manyL]
  | a :: r, 0 => by simp [manyL]
  | a :: r, i + 1 => by
    have := manyL_drop r i
    simp only [List.take_succ_cons, List.drop_succ_cons, manyL]
    omega
theorem left_many {L : Int} {ss : List Ty} {i : Nat} {s : Ty} (hs : ss[i]? = some s) (hL : (manyL ss : Int) + 1 ≤ L) : (many s : Int) ≤ leftAt L ss i ∧ leftAt L ss i ≤ L := by
  have hi := (List.getElem?_eq_some_iff.1 hs).1
  have h1 := manyL_drop ss i
  have h2 := manyL_take ss i s hs
  have h3 := manyL_drop ss (i + 1)
  have h4 := manyL_len (ss.drop (i + 1))
  rw [List.length_drop] at h4
  have h5 := manyL_len (ss.take i)
  rw [List.length_take] at h5
  unfold leftAt
  omega
theorem left_zero (L : Int) (ss : List Ty) : leftAt L ss 0 = L - ss.length := by unfold leftAt; simp [manyL]
theorem left_end (L : Int) (ss : List Ty) : leftAt L ss ss.length = L - manyL ss := by unfold leftAt; rw [List.take_length]; omega
theorem left_step {L : Int} {ss : List Ty} {i : Nat} {s : Ty} (hs : ss[i]? = some s) : leftAt L ss i - (many s - 1) = leftAt L ss (i + 1) := by
  have h2 := manyL_take ss i s hs
  unfold leftAt
  omega
theorem grown_put {w w' : World} {r : Option Nat} (h : w.grownBy w' r) {g : Nat} (hg : w.heap.size ≤ g) (o : Nat) (l : List Value) : w.grownBy (w'.setCells g o l) r := by
  have hb : Below w'.heap.size w' w' := Below.refl _ _
  refine ⟨?_, ?_, ?_, by rw [size_setCells]; exact h.size, fun b hb hne => ?_⟩
  · rw [World.os_setCells]; exact h.os
  · exact (setCells_below (n := 0) (Below.refl 0 w') (Nat.zero_le g) o l).tape.trans h.tape
  · rw [World.output_setCells]; exact h.output
  · rw [World.heap_setCells_other w' g o l (Nat.lt_of_lt_of_le hb h.size) (by omega)]
    exact h.block b hb hne
set_option maxRecDepth 100000 in
set_option maxHeartbeats 8000000 in
theorem listT_any (w0 w : World) (kb : Nat) (A : Option Addr) (n c : Nat) (ss : List Ty) (O : Nat → Obj) (hn : ss.length = n) (hz : n ≤ 1000000) (hS : SubsAt w0 A ss) (hw : Below w0.heap.size w0 w) (hk0 : w0.heap.size ≤ kb) (hkl : kb < w.heap.size) (hO : w.heap[kb]? = some (O 0))
    (IH : ∀ i s, ss[i]? = some s → ∀ (l : List Value) (wx : World), TyAt w0 l s → Below w0.heap.size w0 wx → kb < wx.heap.size → wx.heap[kb]? = some (O i) →
      Calls Try.prog 49 #[.pointer (some ⟨kb, 0, none⟩), .agg l.toArray] wx fun e w' => ∃ l' : List Value, e = .returned (.agg l'.toArray) ∧ TyAt (strike (· < wx.heap.size) w') l' s ∧ w'.heap[kb]? = some (O (i + 1)) ∧ wx.grownBy w' (some kb)) :
    Calls Try.prog 74 #[.slice A n c, .func (.func 49) #[.pointer (some ⟨kb, 0, none⟩)] #[]] w fun e w' => ∃ (A' : Option Addr) (c' : Nat), e = .returned (.slice A' n c') ∧ n ≤ c' ∧ RowIn tR (strike (· < w.heap.size) w') A' ss ∧ w'.heap[kb]? = some (O n) ∧ w.grownBy w' (some kb) := by
  have HN := Lib.hid hn
  have HS := Lib.hid hS
  have HW := Lib.hid hw
  have HIH := Lib.hid IH
  have HO := Lib.hid hO
  have EQ : ∀ wz : World, (binOp .eql 23 (.slice A n c) (.slice none 0 0)).run Try.prog wz = .ok (.bool A.isNone) wz := fun wz => Lib.run_eql_slice_nil wz _ _ _ _ _ _ _ Try.underlying23
  cases A with
  | none =>
    have h0 : ss = [] := hS.row.none_nil
    have hn0 : n = 0 := by rw [← hn, h0]; rfl
    have HX := Lib.hid h0
    subst hn0
    clear hS hn h0 hw IH hO
    go_enter Try.func74, Try.ntmps74
    go_wp2_with fail
    go_ret
    exact ⟨_, _, rfl, Nat.le_refl _, fun i s h => by rw [HX.out] at h; simp at h, HO.out, grown_of (Below.refl _ _)⟩
  | some ad =>
    obtain ⟨i0, hi, hz0, hz1, hz2⟩ := info_parts typ_info
    obtain ⟨W1, hW1⟩ : ∃ W1, W1 = w.alloc (.cells (madeCells (Value.agg #[.int .i64 0, .string ⟨#[]⟩, .int .i64 0, .string ⟨#[]⟩, .string ⟨#[]⟩, .slice none 0 0, .slice none 0 0]).cells (n * 7)) 25) := ⟨_, rfl⟩
    have MS := run_make (P := Try.prog) w 23 25 i0 (.agg #[.int .i64 0, .string ⟨#[]⟩, .int .i64 0, .string ⟨#[]⟩, .string ⟨#[]⟩, .slice none 0 0, .slice none 0 0]) Try.underlying23 hi hz0 .i64 .i64 (n : Int) (n : Int) (by omega) (by omega) (by rw [hz2]; omega) (by omega)
    rw [hz1] at MS
    simp only [Int.toNat_natCast] at MS
    rw [← hW1] at MS
    have START : Hid (Fill tR w.heap.size w.heap.size ss 0 W1) := Lib.hid (by rw [hW1]; exact Fill.start tR (Nat.le_refl _) _ _ ss (by rw [size_madeCells, hn]; rfl))
    have HB1 : Hid (w.grownBy W1 (some kb) ∧ W1.heap[kb]? = some (O 0)) := Lib.hid (by rw [hW1]; exact ⟨grown_of (below_new (Below.refl _ _) _), (Lib.alloc_old w _ kb hkl).trans hO⟩)
    have EQ' : ∀ wz : World, (binOp .eql 23 (.slice (some ad) n c) (.slice none 0 0)).run Try.prog wz = .ok (.bool false) wz := EQ
    clear EQ hW1 hS hn hw IH hO
    go_enter Try.func74, Try.ntmps74
    go_wp2_with fail
    go_loopw [15] (fun s15 wr => ∃ k : Nat, k ≤ n ∧ s15 = .int .i64 k ∧ Hid (Fill tR w.heap.size w.heap.size ss k wr) ∧ Hid (w.grownBy wr (some kb) ∧ wr.heap[kb]? = some (O k))) (fun s15 _ => n - (intOf s15).toNat)
    case atStart => exact ⟨0, by omega, rfl, START, HB1⟩
    case round =>
      obtain ⟨k, hk, rfl, HF, HB⟩ := hrel
      obtain ⟨wo, rfl⟩ : ∃ wo : World, wo = wr := ⟨_, rfl⟩
      clear MS EQ' START HB1
      by_cases hlt : k < n
      · obtain ⟨s, hs⟩ : ∃ s, ss[k]? = some s := ⟨_, List.getElem?_eq_getElem (by rw [HN.out]; exact hlt)⟩
        obtain ⟨g, o, v0, v1, v2, v3, v4, v5, v6, e1, hg, a0, a1, a2, a3, a4, a5, a6, us⟩ := HS.out k s hs
        obtain ⟨Bn, cB, Bs, dB, ev, -⟩ := us.parts
        simp only [List.cons.injEq, and_true] at ev
        obtain ⟨rfl, rfl, rfl, rfl, rfl, rfl, rfl⟩ := ev
        obtain rfl := Option.some.inj e1
        have hBo : Below w0.heap.size w0 wo := below_grow HW.out HB.out.1 hk0
        have q := fun o v (hv : w0.cell? ⟨g, o, none⟩ = some v) => (hBo.cell (p := ⟨g, o, none⟩) hg).trans hv
        have c0 := q _ _ a0
        have c1 := q _ _ a1
        have c2 := q _ _ a2
        have c3 := q _ _ a3
        have c4 := q _ _ a4
        have c5 := q _ _ a5
        have c6 := q _ _ a6
        obtain ⟨w8, hw8⟩ : ∃ w8, w8 = wo.alloc (.cells #[.int .i64 s.kind, .string s.pkg, .int .i64 s.major, .string s.mod, .string s.name, .slice Bn s.names.length cB, .slice Bs s.subs.length dB] 25) := ⟨_, rfl⟩
        have B8 : Below wo.heap.size wo w8 := by rw [hw8]; exact below_new (Below.refl _ _) _
        have Y8 : w8.heap[wo.heap.size]? = some (.cells #[.int .i64 s.kind, .string s.pkg, .int .i64 s.major, .string s.mod, .string s.name, .slice Bn s.names.length cB, .slice Bs s.subs.length dB] 25 (0, 0)) := by rw [hw8]; exact heap_alloc_new wo _
        have s8 : w8.heap.size = wo.heap.size + 1 := by rw [hw8]; simp
        have hkw : kb < wo.heap.size := Nat.lt_of_lt_of_le hkl HB.out.1.size
        have CL := Lib.hid (HIH.out k s hs _ w8 us (below_grow hBo (grown_of B8) hk0) (by omega) ((B8.block _ hkw).trans HB.out.2))
        have HSS := Lib.hid hs
        have HB8 := Lib.hid B8
        have HW8 := Lib.hid hw8
        have HY8 := Lib.hid Y8
        clear hs us hg e1 hBo q a0 a1 a2 a3 a4 a5 a6 B8 hw8
        go_upto_region 7 with fail
        rw [← HW8.out]
        clear c0 c1 c2 c3 c4 c5 c6
        have y0 := Lib.cell_of_heap Y8 0
        have y1 := Lib.cell_of_heap Y8 1
        have y2 := Lib.cell_of_heap Y8 2
        have y3 := Lib.cell_of_heap Y8 3
        have y4 := Lib.cell_of_heap Y8 4
        have y5 := Lib.cell_of_heap Y8 5
        have y6 := Lib.cell_of_heap Y8 6
        simp at y0 y1 y2 y3 y4 y5 y6
        clear Y8
        go_wp2_with fail
        refine CL.out.mono ?_; rintro e w2 ⟨l', rfl, hT2, hO2, hg2⟩
        obtain ⟨Cn, cC, Cs, dC, rfl, -⟩ := hT2.parts
        have hlw : w.heap.size < wo.heap.size := HF.out.hg
        have hs2 := hg2.size
        have F2 : Fill tR w.heap.size w.heap.size ss k w2 := HF.out.keep (by omega) (fun b h1 hb => (hg2.block b (by omega) (fun e => by cases e; omega)).trans (HB8.out.block b hb))
        have HT := F2.at (m := 7) (by rw [HN.out]; exact hlt) rfl
        have F3 : Hid (Fill tR w.heap.size w.heap.size ss (k + 1) (w2.setCells w.heap.size (k * 7) [.int .i64 s.kind, .string s.pkg, .int .i64 s.major, .string s.mod, .string s.name, .slice Cn s.names.length cC, .slice Cs s.subs.length dC])) := Lib.hid (F2.put HSS.out (B := w8.heap.size) hT2 (by omega))
        have B3 : Hid (w.grownBy (w2.setCells w.heap.size (k * 7) [.int .i64 s.kind, .string s.pkg, .int .i64 s.major, .string s.mod, .string s.name, .slice Cn s.names.length cC, .slice Cs s.subs.length dC]) (some kb) ∧ (w2.setCells w.heap.size (k * 7) [.int .i64 s.kind, .string s.pkg, .int .i64 s.major, .string s.mod, .string s.name, .slice Cn s.names.length cC, .slice Cs s.subs.length dC]).heap[kb]? = some (O (k + 1))) := Lib.hid
          ⟨grown_put (grown_over HB.out.1 (grown_over (grown_of HB8.out) hg2)) (Nat.le_refl _) _ _, by rw [World.heap_setCells_other _ _ _ _ (by omega) (by omega)]; exact hO2⟩
        clear F2 hg2 hT2 hO2 CL y0 y1 y2 y3 y4 y5 y6 HB8 HW8 HY8
        go_upto_region 8 with (first | ((with_reducible refine wpList_putMid 25 w.heap.size (k * 7) #[.int .i64 s.kind, .string s.pkg, .int .i64 s.major, .string s.mod, .string s.name, .slice Cn s.names.length cC, .slice Cs s.subs.length dC] ?_ ?_ ?_ ?_ ?_ ?_); exact HT; exact tySize; exact tyOne; rfl; rfl))
        obtain ⟨w9, hw9⟩ : ∃ w9, w9 = w2.setCells w.heap.size (k * 7) [.int .i64 s.kind, .string s.pkg, .int .i64 s.major, .string s.mod, .string s.name, .slice Cn s.names.length cC, .slice Cs s.subs.length dC] := ⟨_, rfl⟩
        rw [← hw9] at F3 B3
        have HW9 := Lib.hid hw9
        clear hw9 HT
        try rw [← HW9.out]
        go_wp2_with fail
        go_roundw
        case rel => exact ⟨k + 1, by omega, by go_num, F3, B3⟩
        case measure => simp [intOf]; omega
      · have hkn : k = n := by omega
        have DONE := Lib.hid (HF.out.done (m := w.heap.size) (by rw [HN.out]; omega) (Nat.le_refl _))
        have HKN := Lib.hid hkn
        clear hkn
        go_wp2_with fail
        go_ret
        exact ⟨_, _, rfl, Nat.le_refl _, DONE.out, by rw [← HKN.out]; exact HB.out.2, HB.out.1⟩
end Go.Proofs.Ytcdmgcgjonndpaa
