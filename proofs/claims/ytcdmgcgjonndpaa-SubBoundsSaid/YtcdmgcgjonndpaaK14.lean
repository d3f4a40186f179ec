/-
  
-/
import Derived.Test.YtcdmgcgjonndpaaK13
namespace Go.Proofs.Ytcdmgcgjonndpaa
open Go Go.RowKit Go.Shelf
open Go.Sort
open M
theorem fnin_join : FnIn 27 := fun args w => by simp [callFunc, go_sem, Try.func27]; rfl
theorem fnin_meet : FnIn 28 := fun args w => by simp [callFunc, go_sem, Try.func28]; rfl
theorem BdOut.up {w0 w W3 w4 : World} {up q : Bool} {a b : Ty} {l : List Value} (hb4 : Below W3.heap.size W3 w4) (h : (q = true ∧ ∃ t, IsBnd up a b t ∧ TyAt (strike (fun k => w0.heap.size ≤ k ∧ k < W3.heap.size) w4) l t) ∨ (q = false ∧ l = [.int .i64 0, .string ⟨#[]⟩, .int .i64 0, .string ⟨#[]⟩, .string ⟨#[]⟩, .slice none 0 0, .slice none 0 0] ∧ NoBnd up a b)) (hw0 : Below w0.heap.size w0 w) (hB3 : Below w.heap.size w W3) (hs3 : W3.heap.size = w.heap.size + 1 + 1 + 1) :
  BdOut w0 up a b w (.returned (.tuple #[.agg l.toArray, .bool q])) (w4.setRow (w.heap.size + 1 + 1) l.toArray) := by
 refine ⟨l, q, rfl, setRow_below (below_over hB3 hb4) (by omega) _, ?_⟩
 rcases h with ⟨h1, t, h2, hT⟩ | h
 ·exact .inl ⟨h1, t, h2, hT.move (by rw [size_setRow]; exact Nat.le_refl _) fun k hk hS => ⟨fun e => hS ⟨e.1, by omega⟩, setRow_other _ _ _ _ (fun e => hS ⟨by have := hw0.size; omega, by omega⟩)⟩⟩
 ·exact .inr h
set_option maxRecDepth 100000 in
set_option maxHeartbeats 16000000 in
theorem join_step (w0 : World) (a b : Ty) (h9a : many a ≤ 9000) (h9b : many b ≤ 9000) (ga : GoodT a) (gb : GoodT b)
  (IHj : ∀ x y, x ∈ a.subs → y ∈ b.subs → BdCall w0 27 true x y) (IHm : ∀ x y, x ∈ a.subs → y ∈ b.subs → BdCall w0 28 false x y) : BdCall w0 27 true a b := by
 intro la lb w hTa hTb hw0
 have HTa := Lib.hid hTa
 have HTb := Lib.hid hTb
 have HW0 := Lib.hid hw0
 have GA := Lib.hid ga
 have GB := Lib.hid gb
 have HIJ := Lib.hid IHj
 have HIM := Lib.hid IHm
 have H99 := Lib.hid (And.intro h9a h9b)
 obtain ⟨An, cA, As, cS, rfl, -⟩ := hTa.parts
 obtain ⟨Bn, cB, Bs, cD, rfl, -⟩ := hTb.parts
 obtain ⟨W2, hW2, B2, O0, O1, hl2⟩ := two_boxes w #[.int .i64 a.kind, .string a.pkg, .int .i64 a.major, .string a.mod, .string a.name, .slice An a.names.length cA, .slice As a.subs.length cS] #[.int .i64 b.kind, .string b.pkg, .int .i64 b.major, .string b.mod, .string b.name, .slice Bn b.names.length cB, .slice Bs b.subs.length cD] 25 25
 have s2 : W2.heap.size = w.heap.size + 1 + 1 := by rw [hW2]; simp
 obtain ⟨W3, hW3⟩ : ∃ W3, W3 = W2.alloc (.cells #[.int .i64 0, .string ⟨#[]⟩, .int .i64 0, .string ⟨#[]⟩, .string ⟨#[]⟩, .slice none 0 0, .slice none 0 0] 25) := ⟨_, rfl⟩
 have B3 : Below W2.heap.size W2 W3 := by rw [hW3]; exact below_new (Below.refl _ _) _
 have s3 : W3.heap.size = w.heap.size + 1 + 1 + 1 := by rw [hW3]; simp [s2]
 have O2 : W3.heap[w.heap.size + 1 + 1]? = some (.cells #[.int .i64 0, .string ⟨#[]⟩, .int .i64 0, .string ⟨#[]⟩, .string ⟨#[]⟩, .slice none 0 0, .slice none 0 0] 25 (0, 0)) := by rw [hW3, ← s2]; exact heap_alloc_new W2 _
 have HB3 : Hid (Below w.heap.size w W3) := Lib.hid (below_over B2 B3)
 have X0 : W3.heap[w.heap.size]? = some (.cells #[.int .i64 a.kind, .string a.pkg, .int .i64 a.major, .string a.mod, .string a.name, .slice An a.names.length cA, .slice As a.subs.length cS] 25 (0, 0)) := (B3.block _ (by omega)).trans O0
 have X1 : W3.heap[w.heap.size + 1]? = some (.cells #[.int .i64 b.kind, .string b.pkg, .int .i64 b.major, .string b.mod, .string b.name, .slice Bn b.names.length cB, .slice Bs b.subs.length cD] 25 (0, 0)) := (B3.block _ (by omega)).trans O1
 have HR : Hid (∀ wx, Below W3.heap.size W3 wx → wx.heap[w.heap.size + 1 + 1]? = some (.cells #[.int .i64 0, .string ⟨#[]⟩, .int .i64 0, .string ⟨#[]⟩, .string ⟨#[]⟩, .slice none 0 0, .slice none 0 0] 25 (0, 0))) := Lib.hid (fun wx hb => (hb.block _ (by omega)).trans O2)
 have HW : Hid (((w.alloc (.cells #[.int .i64 a.kind, .string a.pkg, .int .i64 a.major, .string a.mod, .string a.name, .slice An a.names.length cA, .slice As a.subs.length cS] 25)).alloc (.cells #[.int .i64 b.kind, .string b.pkg, .int .i64 b.major, .string b.mod, .string b.name, .slice Bn b.names.length cB, .slice Bs b.subs.length cD] 25)).alloc (.cells #[.int .i64 0, .string ⟨#[]⟩, .int .i64 0, .string ⟨#[]⟩, .string ⟨#[]⟩, .slice none 0 0, .slice none 0 0] 25) = W3) := Lib.hid (by rw [hW3, hW2])
 have HS3 := Lib.hid s3
 have HW03 : Hid (Below w0.heap.size w0 W3) := Lib.hid (below_over hw0 HB3.out)
 have hrb : w.heap.size ≤ w.heap.size + 1 + 1 := by omega
 have m0 := Lib.cell_of_heap X0 0
 have m1 := Lib.cell_of_heap X0 1
 have m2 := Lib.cell_of_heap X0 2
 have m3 := Lib.cell_of_heap X0 3
 have m4 := Lib.cell_of_heap X0 4
 have m5 := Lib.cell_of_heap X0 5
 have m6 := Lib.cell_of_heap X0 6
 have n0 := Lib.cell_of_heap X1 0
 have n1 := Lib.cell_of_heap X1 1
 have n2 := Lib.cell_of_heap X1 2
 have n3 := Lib.cell_of_heap X1 3
 have n4 := Lib.cell_of_heap X1 4
 have n5 := Lib.cell_of_heap X1 5
 have n6 := Lib.cell_of_heap X1 6
 simp at m0 m1 m2 m3 m4 m5 m6 n0 n1 n2 n3 n4 n5 n6
 clear hW2 hW3 B2 B3 O0 O1 O2 s2 s3 hl2 hTa hTb ga gb hw0 X0 X1 IHj IHm h9a h9b
 by_cases hk : a.kind = b.kind
 ·have HK := Lib.hid hk
  have e1 : (a.kind != b.kind) = false := by rw [hk]; simp
  by_cases h5 : a.kind = 5
  ·have q5 : (a.kind == 5) = true := by rw [h5]; rfl
   have H5 := Lib.hid h5
   have CT := Lib.hid (common_any _ true fnin_join w0 a b [.int .i64 a.kind, .string a.pkg, .int .i64 a.major, .string a.mod, .string a.name, .slice An a.names.length cA, .slice As a.subs.length cS] [.int .i64 b.kind, .string b.pkg, .int .i64 b.major, .string b.mod, .string b.name, .slice Bn b.names.length cB, .slice Bs b.subs.length cD] W3 GA.out GB.out HK.out (by omega) H99.out.1 H99.out.2 HTa.out HTb.out HW03.out HIJ.out)
   clear hk h5
   go_enter Try.func27, Try.ntmps27
   go_upto_region 1 with fail
   rw [HW.out]
   clear HW
   go_wp2_with fail
   refine CT.out.mono ?_; rintro e w4 ⟨l, t, rfl, hb4, hkt, hbt, hcp, hT⟩
   obtain ⟨Fn, cF, Fs, dF, rfl, -⟩ := hT.parts
   have X7 := HR.out w4 hb4
   have HX7 := Lib.hid X7
   have FIN := Lib.hid (BdOut.up (q := true) hb4 (.inl ⟨rfl, t, hcp.bnd (up := true) (.inl ⟨H5.out, rfl⟩) HK.out GA.out GB.out hkt hbt (fun e => by have := H5.out; omega), hT⟩) HW0.out HB3.out HS3.out)
   clear CT hb4 hkt hbt hcp hT m0 m1 m2 m3 m4 m5 m6 n0 n1 n2 n3 n4 n5 n6
   go_wp2_with (first | ((with_reducible refine wpList_putRow 25 (w.heap.size + 1 + 1) #[.int .i64 t.kind, .string t.pkg, .int .i64 t.major, .string t.mod, .string t.name, .slice Fn t.names.length cF, .slice Fs t.subs.length dF] _ _ X7 ?_ ?_ ?_ ?_ ?_ ?_); exact tySize; rfl; exact tyOne; (focus (first | (go_simp; done) | rfl)); (focus (first | (go_simp; done) | rfl))))
   exact ret_agg (fn := Try.f27) (vs := [.int .i64 t.kind, .string t.pkg, .int .i64 t.major, .string t.mod, .string t.name, .slice Fn t.names.length cF, .slice Fs t.subs.length dF]) (b := w.heap.size + 1 + 1) rfl rfl rfl Try.underlying25 (by kernel_rfl) (cell7 (setRow_heap _ (w.heap.size + 1 + 1) _ _ _ _ HX7.out)) rfl FIN.out
  ·have q5 : (a.kind == 5) = false := by simpa using h5
   by_cases h6 : a.kind = 6
   ·have q6 : (a.kind == 6) = true := by rw [h6]; rfl
    have H6 := Lib.hid h6
    clear h5 h6
    have CT := Lib.hid (union_any _ true fnin_join w0 a b [.int .i64 a.kind, .string a.pkg, .int .i64 a.major, .string a.mod, .string a.name, .slice An a.names.length cA, .slice As a.subs.length cS] [.int .i64 b.kind, .string b.pkg, .int .i64 b.major, .string b.mod, .string b.name, .slice Bn b.names.length cB, .slice Bs b.subs.length cD] W3 GA.out GB.out (.inl ⟨H6.out, rfl⟩) HK.out H99.out.1 H99.out.2 HTa.out HTb.out HW03.out HIJ.out)
    clear hk
    go_enter Try.func27, Try.ntmps27
    go_upto_region 1 with fail
    rw [HW.out]
    clear HW
    go_wp2_with fail
    refine CT.out.mono ?_; rintro e w4 ⟨l, q, rfl, hb4, hcase⟩
    obtain ⟨v, Hn, cH, Hs, dH, rfl⟩ := bd_shape hcase
    have X7 := HR.out w4 hb4
    have HX7 := Lib.hid X7
    have FIN := Lib.hid (BdOut.up hb4 hcase HW0.out HB3.out HS3.out)
    clear CT hb4 hcase m0 m1 m2 m3 m4 m5 m6 n0 n1 n2 n3 n4 n5 n6
    go_wp2_with (first | ((with_reducible refine wpList_putRow 25 (w.heap.size + 1 + 1) #[.int .i64 v.kind, .string v.pkg, .int .i64 v.major, .string v.mod, .string v.name, .slice Hn v.names.length cH, .slice Hs v.subs.length dH] _ _ X7 ?_ ?_ ?_ ?_ ?_ ?_); exact tySize; rfl; exact tyOne; (focus (first | (go_simp; done) | rfl)); (focus (first | (go_simp; done) | rfl))))
    exact ret_agg (fn := Try.f27) (vs := [.int .i64 v.kind, .string v.pkg, .int .i64 v.major, .string v.mod, .string v.name, .slice Hn v.names.length cH, .slice Hs v.subs.length dH]) (b := w.heap.size + 1 + 1) rfl rfl rfl Try.underlying25 (by kernel_rfl) (cell7 (setRow_heap _ (w.heap.size + 1 + 1) _ _ _ _ HX7.out)) rfl FIN.out
   ·have q6 : (a.kind == 6) = false := by simpa using h6
    by_cases h47 : a.kind = 4 ∨ a.kind = 7
    ·have CT := Lib.hid (partwise_any _ _ true fnin_join fnin_meet w0 a b [.int .i64 a.kind, .string a.pkg, .int .i64 a.major, .string a.mod, .string a.name, .slice An a.names.length cA, .slice As a.subs.length cS] [.int .i64 b.kind, .string b.pkg, .int .i64 b.major, .string b.mod, .string b.name, .slice Bn b.names.length cB, .slice Bs b.subs.length cD] W3 GA.out GB.out HK.out h47 H99.out.1 HTa.out HTb.out HW03.out HIJ.out HIM.out)
     clear hk h5 h6 h47
     go_enter Try.func27, Try.ntmps27
     go_upto_region 1 with fail
     rw [HW.out]
     clear HW
     go_wp2_with fail
     refine CT.out.mono ?_; rintro e w4 ⟨l, q, rfl, hb4, hcase⟩
     obtain ⟨v, Hn, cH, Hs, dH, rfl⟩ := bd_shape hcase
     have X7 := HR.out w4 hb4
     have HX7 := Lib.hid X7
     have FIN := Lib.hid (BdOut.up hb4 hcase HW0.out HB3.out HS3.out)
     clear CT hb4 hcase m0 m1 m2 m3 m4 m5 m6 n0 n1 n2 n3 n4 n5 n6
     go_wp2_with (first | ((with_reducible refine wpList_putRow 25 (w.heap.size + 1 + 1) #[.int .i64 v.kind, .string v.pkg, .int .i64 v.major, .string v.mod, .string v.name, .slice Hn v.names.length cH, .slice Hs v.subs.length dH] _ _ X7 ?_ ?_ ?_ ?_ ?_ ?_); exact tySize; rfl; exact tyOne; (focus (first | (go_simp; done) | rfl)); (focus (first | (go_simp; done) | rfl))))
     exact ret_agg (fn := Try.f27) (vs := [.int .i64 v.kind, .string v.pkg, .int .i64 v.major, .string v.mod, .string v.name, .slice Hn v.names.length cH, .slice Hs v.subs.length dH]) (b := w.heap.size + 1 + 1) rfl rfl rfl Try.underlying25 (by kernel_rfl) (cell7 (setRow_heap _ (w.heap.size + 1 + 1) _ _ _ _ HX7.out)) rfl FIN.out
    ·have CT := Lib.hid (partwiseJ_leaf w0 a b [.int .i64 a.kind, .string a.pkg, .int .i64 a.major, .string a.mod, .string a.name, .slice An a.names.length cA, .slice As a.subs.length cS] [.int .i64 b.kind, .string b.pkg, .int .i64 b.major, .string b.mod, .string b.name, .slice Bn b.names.length cB, .slice Bs b.subs.length cD] W3 GA.out GB.out HK.out (fun e => h47 (.inl e)) h5 h6 (fun e => h47 (.inr e)) HTa.out HTb.out HW03.out)
     clear hk h5 h6 h47
     go_enter Try.func27, Try.ntmps27
     go_upto_region 1 with fail
     rw [HW.out]
     clear HW
     go_wp2_with fail
     refine CT.out.mono ?_; rintro e w4 ⟨l, q, rfl, hb4, hcase⟩
     obtain ⟨v, Hn, cH, Hs, dH, rfl⟩ := bd_shape hcase
     have X7 := HR.out w4 hb4
     have HX7 := Lib.hid X7
     have FIN := Lib.hid (BdOut.up hb4 hcase HW0.out HB3.out HS3.out)
     clear CT hb4 hcase m0 m1 m2 m3 m4 m5 m6 n0 n1 n2 n3 n4 n5 n6
     go_wp2_with (first | ((with_reducible refine wpList_putRow 25 (w.heap.size + 1 + 1) #[.int .i64 v.kind, .string v.pkg, .int .i64 v.major, .string v.mod, .string v.name, .slice Hn v.names.length cH, .slice Hs v.subs.length dH] _ _ X7 ?_ ?_ ?_ ?_ ?_ ?_); exact tySize; rfl; exact tyOne; (focus (first | (go_simp; done) | rfl)); (focus (first | (go_simp; done) | rfl))))
     exact ret_agg (fn := Try.f27) (vs := [.int .i64 v.kind, .string v.pkg, .int .i64 v.major, .string v.mod, .string v.name, .slice Hn v.names.length cH, .slice Hs v.subs.length dH]) (b := w.heap.size + 1 + 1) rfl rfl rfl Try.underlying25 (by kernel_rfl) (cell7 (setRow_heap _ (w.heap.size + 1 + 1) _ _ _ _ HX7.out)) rfl FIN.out
 ·have e1 : (a.kind != b.kind) = true := by simpa using hk
  have FIN := Lib.hid (BdOut.zero (w0 := w0) HB3.out hrb (no_kind (up := true) hk))
  have X7 := HR.out W3 (Below.refl _ _)
  have HX7 := Lib.hid X7
  clear hk
  go_enter Try.func27, Try.ntmps27
  go_upto_region 1 with fail
  rw [HW.out]
  clear HW
  go_upto_region 2 with fail
  go_wp2_with (first | ((with_reducible refine wpList_putRow 25 (w.heap.size + 1 + 1) #[.int .i64 0, .string ⟨#[]⟩, .int .i64 0, .string ⟨#[]⟩, .string ⟨#[]⟩, .slice none 0 0, .slice none 0 0] _ _ X7 ?_ ?_ ?_ ?_ ?_ ?_); exact tySize; rfl; exact tyOne; (focus (first | (go_simp; done) | rfl)); (focus (first | (go_simp; done) | rfl))))
  exact ret_agg (fn := Try.f27) (vs := [.int .i64 0, .string ⟨#[]⟩, .int .i64 0, .string ⟨#[]⟩, .string ⟨#[]⟩, .slice none 0 0, .slice none 0 0]) (b := w.heap.size + 1 + 1) rfl rfl rfl Try.underlying25 (by kernel_rfl) (cell7 (setRow_heap _ (w.heap.size + 1 + 1) _ _ _ _ HX7.out)) rfl FIN.out
set_option maxRecDepth 100000 in
set_option maxHeartbeats 16000000 in
theorem meet_step (w0 : World) (a b : Ty) (h9a : many a ≤ 9000) (h9b : many b ≤ 9000) (ga : GoodT a) (gb : GoodT b)
  (IHj : ∀ x y, x ∈ a.subs → y ∈ b.subs → BdCall w0 27 true x y) (IHm : ∀ x y, x ∈ a.subs → y ∈ b.subs → BdCall w0 28 false x y) : BdCall w0 28 false a b := by
 intro la lb w hTa hTb hw0
 have HTa := Lib.hid hTa
 have HTb := Lib.hid hTb
 have HW0 := Lib.hid hw0
 have GA := Lib.hid ga
 have GB := Lib.hid gb
 have HIJ := Lib.hid IHj
 have HIM := Lib.hid IHm
 have H99 := Lib.hid (And.intro h9a h9b)
 obtain ⟨An, cA, As, cS, rfl, -⟩ := hTa.parts
 obtain ⟨Bn, cB, Bs, cD, rfl, -⟩ := hTb.parts
 obtain ⟨W2, hW2, B2, O0, O1, hl2⟩ := two_boxes w #[.int .i64 a.kind, .string a.pkg, .int .i64 a.major, .string a.mod, .string a.name, .slice An a.names.length cA, .slice As a.subs.length cS] #[.int .i64 b.kind, .string b.pkg, .int .i64 b.major, .string b.mod, .string b.name, .slice Bn b.names.length cB, .slice Bs b.subs.length cD] 25 25
 have s2 : W2.heap.size = w.heap.size + 1 + 1 := by rw [hW2]; simp
 obtain ⟨W3, hW3⟩ : ∃ W3, W3 = W2.alloc (.cells #[.int .i64 0, .string ⟨#[]⟩, .int .i64 0, .string ⟨#[]⟩, .string ⟨#[]⟩, .slice none 0 0, .slice none 0 0] 25) := ⟨_, rfl⟩
 have B3 : Below W2.heap.size W2 W3 := by rw [hW3]; exact below_new (Below.refl _ _) _
 have s3 : W3.heap.size = w.heap.size + 1 + 1 + 1 := by rw [hW3]; simp [s2]
 have O2 : W3.heap[w.heap.size + 1 + 1]? = some (.cells #[.int .i64 0, .string ⟨#[]⟩, .int .i64 0, .string ⟨#[]⟩, .string ⟨#[]⟩, .slice none 0 0, .slice none 0 0] 25 (0, 0)) := by rw [hW3, ← s2]; exact heap_alloc_new W2 _
 have HB3 : Hid (Below w.heap.size w W3) := Lib.hid (below_over B2 B3)
 have X0 : W3.heap[w.heap.size]? = some (.cells #[.int .i64 a.kind, .string a.pkg, .int .i64 a.major, .string a.mod, .string a.name, .slice An a.names.length cA, .slice As a.subs.length cS] 25 (0, 0)) := (B3.block _ (by omega)).trans O0
 have X1 : W3.heap[w.heap.size + 1]? = some (.cells #[.int .i64 b.kind, .string b.pkg, .int .i64 b.major, .string b.mod, .string b.name, .slice Bn b.names.length cB, .slice Bs b.subs.length cD] 25 (0, 0)) := (B3.block _ (by omega)).trans O1
 have HR : Hid (∀ wx, Below W3.heap.size W3 wx → wx.heap[w.heap.size + 1 + 1]? = some (.cells #[.int .i64 0, .string ⟨#[]⟩, .int .i64 0, .string ⟨#[]⟩, .string ⟨#[]⟩, .slice none 0 0, .slice none 0 0] 25 (0, 0))) := Lib.hid (fun wx hb => (hb.block _ (by omega)).trans O2)
 have HW : Hid (((w.alloc (.cells #[.int .i64 a.kind, .string a.pkg, .int .i64 a.major, .string a.mod, .string a.name, .slice An a.names.length cA, .slice As a.subs.length cS] 25)).alloc (.cells #[.int .i64 b.kind, .string b.pkg, .int .i64 b.major, .string b.mod, .string b.name, .slice Bn b.names.length cB, .slice Bs b.subs.length cD] 25)).alloc (.cells #[.int .i64 0, .string ⟨#[]⟩, .int .i64 0, .string ⟨#[]⟩, .string ⟨#[]⟩, .slice none 0 0, .slice none 0 0] 25) = W3) := Lib.hid (by rw [hW3, hW2])
 have HS3 := Lib.hid s3
 have HW03 : Hid (Below w0.heap.size w0 W3) := Lib.hid (below_over hw0 HB3.out)
 have hrb : w.heap.size ≤ w.heap.size + 1 + 1 := by omega
 have m0 := Lib.cell_of_heap X0 0
 have m1 := Lib.cell_of_heap X0 1
 have m2 := Lib.cell_of_heap X0 2
 have m3 := Lib.cell_of_heap X0 3
 have m4 := Lib.cell_of_heap X0 4
 have m5 := Lib.cell_of_heap X0 5
 have m6 := Lib.cell_of_heap X0 6
 have n0 := Lib.cell_of_heap X1 0
 have n1 := Lib.cell_of_heap X1 1
 have n2 := Lib.cell_of_heap X1 2
 have n3 := Lib.cell_of_heap X1 3
 have n4 := Lib.cell_of_heap X1 4
 have n5 := Lib.cell_of_heap X1 5
 have n6 := Lib.cell_of_heap X1 6
 simp at m0 m1 m2 m3 m4 m5 m6 n0 n1 n2 n3 n4 n5 n6
 clear hW2 hW3 B2 B3 O0 O1 O2 s2 s3 hl2 hTa hTb ga gb hw0 X0 X1 IHj IHm h9a h9b
 by_cases hk : a.kind = b.kind
 ·have HK := Lib.hid hk
  have e1 : (a.kind != b.kind) = false := by rw [hk]; simp
  by_cases h5 : a.kind = 5
  ·have q5 : (a.kind == 5) = true := by rw [h5]; rfl
   have H5 := Lib.hid h5
   clear h5
   have CT := Lib.hid (union_any _ false fnin_meet w0 a b [.int .i64 a.kind, .string a.pkg, .int .i64 a.major, .string a.mod, .string a.name, .slice An a.names.length cA, .slice As a.subs.length cS] [.int .i64 b.kind, .string b.pkg, .int .i64 b.major, .string b.mod, .string b.name, .slice Bn b.names.length cB, .slice Bs b.subs.length cD] W3 GA.out GB.out (.inr ⟨H5.out, rfl⟩) HK.out H99.out.1 H99.out.2 HTa.out HTb.out HW03.out HIM.out)
   clear hk
   go_enter Try.func28, Try.ntmps28
   go_upto_region 1 with fail
   rw [HW.out]
   clear HW
   go_wp2_with fail
   refine CT.out.mono ?_; rintro e w4 ⟨l, q, rfl, hb4, hcase⟩
   obtain ⟨v, Hn, cH, Hs, dH, rfl⟩ := bd_shape hcase
   have X7 := HR.out w4 hb4
   have HX7 := Lib.hid X7
   have FIN := Lib.hid (BdOut.up hb4 hcase HW0.out HB3.out HS3.out)
   clear CT hb4 hcase m0 m1 m2 m3 m4 m5 m6 n0 n1 n2 n3 n4 n5 n6
   go_wp2_with (first | ((with_reducible refine wpList_putRow 25 (w.heap.size + 1 + 1) #[.int .i64 v.kind, .string v.pkg, .int .i64 v.major, .string v.mod, .string v.name, .slice Hn v.names.length cH, .slice Hs v.subs.length dH] _ _ X7 ?_ ?_ ?_ ?_ ?_ ?_); exact tySize; rfl; exact tyOne; (focus (first | (go_simp; done) | rfl)); (focus (first | (go_simp; done) | rfl))))
   exact ret_agg (fn := Try.f28) (vs := [.int .i64 v.kind, .string v.pkg, .int .i64 v.major, .string v.mod, .string v.name, .slice Hn v.names.length cH, .slice Hs v.subs.length dH]) (b := w.heap.size + 1 + 1) rfl rfl rfl Try.underlying25 (by kernel_rfl) (cell7 (setRow_heap _ (w.heap.size + 1 + 1) _ _ _ _ HX7.out)) rfl FIN.out
  ·have q5 : (a.kind == 5) = false := by simpa using h5
   by_cases h6 : a.kind = 6
   ·have q6 : (a.kind == 6) = true := by rw [h6]; rfl
    have H6 := Lib.hid h6
    have CT := Lib.hid (common_any _ false fnin_meet w0 a b [.int .i64 a.kind, .string a.pkg, .int .i64 a.major, .string a.mod, .string a.name, .slice An a.names.length cA, .slice As a.subs.length cS] [.int .i64 b.kind, .string b.pkg, .int .i64 b.major, .string b.mod, .string b.name, .slice Bn b.names.length cB, .slice Bs b.subs.length cD] W3 GA.out GB.out HK.out (by omega) H99.out.1 H99.out.2 HTa.out HTb.out HW03.out HIM.out)
    clear hk h5 h6
    go_enter Try.func28, Try.ntmps28
    go_upto_region 1 with fail
    rw [HW.out]
    clear HW
    go_wp2_with fail
    refine CT.out.mono ?_; rintro e w4 ⟨l, t, rfl, hb4, hkt, hbt, hcp, hT⟩
    obtain ⟨Fn, cF, Fs, dF, rfl, -⟩ := hT.parts
    clear CT m0 m1 m2 m3 m4 m5 m6 n0 n1 n2 n3 n4 n5 n6
    obtain ⟨w5, hw5⟩ : ∃ w5, w5 = w4.alloc (.cells #[.int .i64 t.kind, .string t.pkg, .int .i64 t.major, .string t.mod, .string t.name, .slice Fn t.names.length cF, .slice Fs t.subs.length dF] 25) := ⟨_, rfl⟩
    have B45 : Below w4.heap.size w4 w5 := by rw [hw5]; exact below_new (Below.refl _ _) _
    have B5 : Below W3.heap.size W3 w5 := by rw [hw5]; exact below_new hb4 _
    have Y5 : w5.heap[w4.heap.size]? = some (.cells #[.int .i64 t.kind, .string t.pkg, .int .i64 t.major, .string t.mod, .string t.name, .slice Fn t.names.length cF, .slice Fs t.subs.length dF] 25 (0, 0)) := by rw [hw5]; exact heap_alloc_new w4 _
    have HW5 := Lib.hid hw5
    have X7 := HR.out w5 B5
    have HX7 := Lib.hid X7
    have m0 := Lib.cell_of_heap Y5 0
    have m1 := Lib.cell_of_heap Y5 1
    have m2 := Lib.cell_of_heap Y5 2
    have m3 := Lib.cell_of_heap Y5 3
    have m4 := Lib.cell_of_heap Y5 4
    have m5 := Lib.cell_of_heap Y5 5
    have m6 := Lib.cell_of_heap Y5 6
    simp at m0 m1 m2 m3 m4 m5 m6
    by_cases hn : t.names = []
    ·have qn : ((t.names.length : Int) == 0) = true := by rw [hn]; rfl
     have FIN := Lib.hid (BdOut.zero (w0 := w0) (below_over HB3.out B5) hrb (hcp.none (up := false) (.inr ⟨H6.out, rfl⟩) H6.out HK.out hn))
     clear hw5 hb4 hkt hbt hcp hT hn B45 B5 Y5
     go_upto_region 7 with fail
     rw [← HW5.out]
     clear HW5
     go_upto_region 8 with fail
     go_wp2_with (first | ((with_reducible refine wpList_putRow 25 (w.heap.size + 1 + 1) #[.int .i64 0, .string ⟨#[]⟩, .int .i64 0, .string ⟨#[]⟩, .string ⟨#[]⟩, .slice none 0 0, .slice none 0 0] _ _ X7 ?_ ?_ ?_ ?_ ?_ ?_); exact tySize; rfl; exact tyOne; (focus (first | (go_simp; done) | rfl)); (focus (first | (go_simp; done) | rfl))))
     exact ret_agg (fn := Try.f28) (vs := [.int .i64 0, .string ⟨#[]⟩, .int .i64 0, .string ⟨#[]⟩, .string ⟨#[]⟩, .slice none 0 0, .slice none 0 0]) (b := w.heap.size + 1 + 1) rfl rfl rfl Try.underlying25 (by kernel_rfl) (cell7 (setRow_heap _ (w.heap.size + 1 + 1) _ _ _ _ HX7.out)) rfl FIN.out
    ·have hpos := List.length_pos_iff.2 hn
     have qn : ((t.names.length : Int) == 0) = false := by simp; omega
     have hT5 : TyAt (strike (fun k => w0.heap.size ≤ k ∧ k < W3.heap.size) w5) [.int .i64 t.kind, .string t.pkg, .int .i64 t.major, .string t.mod, .string t.name, .slice Fn t.names.length cF, .slice Fs t.subs.length dF] t := hT.move B45.size fun k hk hS => ⟨hS, B45.block k hk⟩
     have FIN := Lib.hid (BdOut.up (q := true) B5 (.inl ⟨rfl, t, hcp.bnd (up := false) (.inr ⟨H6.out, rfl⟩) HK.out GA.out GB.out hkt hbt (fun _ => hn), hT5⟩) HW0.out HB3.out HS3.out)
     clear hw5 hb4 hkt hbt hcp hT hn B45 B5 Y5 hpos hT5
     go_upto_region 7 with fail
     rw [← HW5.out]
     clear HW5
     go_upto_region 9 with fail
     go_wp2_with (first | ((with_reducible refine wpList_putRow 25 (w.heap.size + 1 + 1) #[.int .i64 t.kind, .string t.pkg, .int .i64 t.major, .string t.mod, .string t.name, .slice Fn t.names.length cF, .slice Fs t.subs.length dF] _ _ X7 ?_ ?_ ?_ ?_ ?_ ?_); exact tySize; rfl; exact tyOne; (focus (first | (go_simp; done) | rfl)); (focus (first | (go_simp; done) | rfl))))
     exact ret_agg (fn := Try.f28) (vs := [.int .i64 t.kind, .string t.pkg, .int .i64 t.major, .string t.mod, .string t.name, .slice Fn t.names.length cF, .slice Fs t.subs.length dF]) (b := w.heap.size + 1 + 1) rfl rfl rfl Try.underlying25 (by kernel_rfl) (cell7 (setRow_heap _ (w.heap.size + 1 + 1) _ _ _ _ HX7.out)) rfl FIN.out
   ·have q6 : (a.kind == 6) = false := by simpa using h6
    by_cases h47 : a.kind = 4 ∨ a.kind = 7
    ·have CT := Lib.hid (partwise_any _ _ false fnin_meet fnin_join w0 a b [.int .i64 a.kind, .string a.pkg, .int .i64 a.major, .string a.mod, .string a.name, .slice An a.names.length cA, .slice As a.subs.length cS] [.int .i64 b.kind, .string b.pkg, .int .i64 b.major, .string b.mod, .string b.name, .slice Bn b.names.length cB, .slice Bs b.subs.length cD] W3 GA.out GB.out HK.out h47 H99.out.1 HTa.out HTb.out HW03.out HIM.out HIJ.out)
     clear hk h5 h6 h47
     go_enter Try.func28, Try.ntmps28
     go_upto_region 1 with fail
     rw [HW.out]
     clear HW
     go_wp2_with fail
     refine CT.out.mono ?_; rintro e w4 ⟨l, q, rfl, hb4, hcase⟩
     obtain ⟨v, Hn, cH, Hs, dH, rfl⟩ := bd_shape hcase
     have X7 := HR.out w4 hb4
     have HX7 := Lib.hid X7
     have FIN := Lib.hid (BdOut.up hb4 hcase HW0.out HB3.out HS3.out)
     clear CT hb4 hcase m0 m1 m2 m3 m4 m5 m6 n0 n1 n2 n3 n4 n5 n6
     go_wp2_with (first | ((with_reducible refine wpList_putRow 25 (w.heap.size + 1 + 1) #[.int .i64 v.kind, .string v.pkg, .int .i64 v.major, .string v.mod, .string v.name, .slice Hn v.names.length cH, .slice Hs v.subs.length dH] _ _ X7 ?_ ?_ ?_ ?_ ?_ ?_); exact tySize; rfl; exact tyOne; (focus (first | (go_simp; done) | rfl)); (focus (first | (go_simp; done) | rfl))))
     exact ret_agg (fn := Try.f28) (vs := [.int .i64 v.kind, .string v.pkg, .int .i64 v.major, .string v.mod, .string v.name, .slice Hn v.names.length cH, .slice Hs v.subs.length dH]) (b := w.heap.size + 1 + 1) rfl rfl rfl Try.underlying25 (by kernel_rfl) (cell7 (setRow_heap _ (w.heap.size + 1 + 1) _ _ _ _ HX7.out)) rfl FIN.out
    ·have CT := Lib.hid (partwiseM_leaf w0 a b [.int .i64 a.kind, .string a.pkg, .int .i64 a.major, .string a.mod, .string a.name, .slice An a.names.length cA, .slice As a.subs.length cS] [.int .i64 b.kind, .string b.pkg, .int .i64 b.major, .string b.mod, .string b.name, .slice Bn b.names.length cB, .slice Bs b.subs.length cD] W3 GA.out GB.out HK.out (fun e => h47 (.inl e)) h5 h6 (fun e => h47 (.inr e)) HTa.out HTb.out HW03.out)
     clear hk h5 h6 h47
     go_enter Try.func28, Try.ntmps28
     go_upto_region 1 with fail
     rw [HW.out]
     clear HW
     go_wp2_with fail
     refine CT.out.mono ?_; rintro e w4 ⟨l, q, rfl, hb4, hcase⟩
     obtain ⟨v, Hn, cH, Hs, dH, rfl⟩ := bd_shape hcase
     have X7 := HR.out w4 hb4
     have HX7 := Lib.hid X7
     have FIN := Lib.hid (BdOut.up hb4 hcase HW0.out HB3.out HS3.out)
     clear CT hb4 hcase m0 m1 m2 m3 m4 m5 m6 n0 n1 n2 n3 n4 n5 n6
     go_wp2_with (first | ((with_reducible refine wpList_putRow 25 (w.heap.size + 1 + 1) #[.int .i64 v.kind, .string v.pkg, .int .i64 v.major, .string v.mod, .string v.name, .slice Hn v.names.length cH, .slice Hs v.subs.length dH] _ _ X7 ?_ ?_ ?_ ?_ ?_ ?_); exact tySize; rfl; exact tyOne; (focus (first | (go_simp; done) | rfl)); (focus (first | (go_simp; done) | rfl))))
     exact ret_agg (fn := Try.f28) (vs := [.int .i64 v.kind, .string v.pkg, .int .i64 v.major, .string v.mod, .string v.name, .slice Hn v.names.length cH, .slice Hs v.subs.length dH]) (b := w.heap.size + 1 + 1) rfl rfl rfl Try.underlying25 (by kernel_rfl) (cell7 (setRow_heap _ (w.heap.size + 1 + 1) _ _ _ _ HX7.out)) rfl FIN.out
 ·have e1 : (a.kind != b.kind) = true := by simpa using hk
  have FIN := Lib.hid (BdOut.zero (w0 := w0) HB3.out hrb (no_kind (up := false) hk))
  have X7 := HR.out W3 (Below.refl _ _)
  have HX7 := Lib.hid X7
  clear hk
  go_enter Try.func28, Try.ntmps28
  go_upto_region 1 with fail
  rw [HW.out]
  clear HW
  go_upto_region 2 with fail
  go_wp2_with (first | ((with_reducible refine wpList_putRow 25 (w.heap.size + 1 + 1) #[.int .i64 0, .string ⟨#[]⟩, .int .i64 0, .string ⟨#[]⟩, .string ⟨#[]⟩, .slice none 0 0, .slice none 0 0] _ _ X7 ?_ ?_ ?_ ?_ ?_ ?_); exact tySize; rfl; exact tyOne; (focus (first | (go_simp; done) | rfl)); (focus (first | (go_simp; done) | rfl))))
  exact ret_agg (fn := Try.f28) (vs := [.int .i64 0, .string ⟨#[]⟩, .int .i64 0, .string ⟨#[]⟩, .string ⟨#[]⟩, .slice none 0 0, .slice none 0 0]) (b := w.heap.size + 1 + 1) rfl rfl rfl Try.underlying25 (by kernel_rfl) (cell7 (setRow_heap _ (w.heap.size + 1 + 1) _ _ _ _ HX7.out)) rfl FIN.out
theorem joinmeet_any (w0 : World) (N : Nat) : ∀ (a b : Ty), many a + many b ≤ N → many a ≤ 9000 → many b ≤ 9000 → GoodT a → GoodT b → BdCall w0 27 true a b ∧ BdCall w0 28 false a b := by
 induction N with
 | zero => intro a b h; have := many_pos a; omega
 | succ N ih =>
  intro a b hN h9a h9b ga gb
  have IH : ∀ x y, x ∈ a.subs → y ∈ b.subs → BdCall w0 27 true x y ∧ BdCall w0 28 false x y := fun x y hx hy => by
   have h1 := sub_lt hx
   have h2 := sub_lt hy
   exact ih x y (by omega) (by omega) (by omega) (ga.sub hx) (gb.sub hy)
  exact ⟨join_step w0 a b h9a h9b ga gb (fun x y hx hy => (IH x y hx hy).1) (fun x y hx hy => (IH x y hx hy).2), meet_step w0 a b h9a h9b ga gb (fun x y hx hy => (IH x y hx hy).1) (fun x y hx hy => (IH x y hx hy).2)⟩
end Go.Proofs.Ytcdmgcgjonndpaa
