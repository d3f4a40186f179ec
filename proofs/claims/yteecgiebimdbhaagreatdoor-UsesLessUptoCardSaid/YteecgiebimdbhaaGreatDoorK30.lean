/-
  Several texts in one.
-/
import Derived.Test.YteecgiebimdbhaaGreatDoorK29
open List (getElem_toArray getElem_cons_succ getElem_cons_zero set_cons_zero set_cons_succ setIfInBounds_toArray)
set_option maxRecDepth 100000
set_option maxHeartbeats 32000000
namespace Go.Proofs.YteecgiebimdbhaaGreatDoor
open Go Go.RowKit Go.Shelf
open Go.Sort Go.Maps
open M
theorem evU_nil {c a : Int} {v : Value} {w : World} (h : EvU c a v w) : (c = 0 /\ v = .nilIface) \/ (c ≠ 0 /\ ∃ T y, v = .iface T y) := by
 rcases h with h | ⟨h, -, e⟩ | ⟨g, i, b, h, -, -, e, -⟩
 ·exact .inl h
 ·exact .inr ⟨h, _, _, e⟩
 ·exact .inr ⟨h, _, _, e⟩
theorem env_row {W w6 : World} {env : List If} {x : If} {lx : List Value} {C : List (List Value)} {lo ne c6 : Nat} {A6 : Option Addr} (hne : ne = env.length) (own : w6.ownsRow lo 50 5 (.slice A6 (ne + 1) c6) (ne + 1) (C.flatten ++ lx)) (hCl : C.length = env.length) (hC5 : ∀ y, y ∈ C -> y.length = 5)
  (hCE : ∀ (i : Nat) (y : List Value) (x : If), C[i]? = some y -> env[i]? = some x -> ifR.E W y x) (hxW : ifE W lx x) (hB : Below W.heap.size W w6) : RowIn ifR w6 A6 (env ++ [x]) := by
 have hlen : (env ++ [x]).length = ne + 1 := by rw [List.length_append, <- hne]; rfl
 have h5 : lx.length = 5 := by obtain ⟨At, ct, Av, cv, rfl, -⟩ := hxW; rfl
 refine RowIn.of_own (R := ifR) (c := c6) (C := C ++ [lx]) (by rw [hlen]; have e : (C ++ [lx]).flatten = C.flatten ++ lx := (by simp); rw [e]; exact own) (by rw [List.length_append, hCl, List.length_append]; rfl) (fun y hy => ?_) (fun i y z h1 h2 => ifR.keep _ _ _ _ (pairs_snoc hCl hCE hxW i y z h1 h2) hB)
 rcases List.mem_append.1 hy with h | h
 ·exact hC5 y h
 ·rw [List.mem_singleton.1 h]; exact h5
theorem usesLess_any (u : Us) (l : List Value) (env : List If) (Ae : Option Addr) (ce : Nat) (x : If) (lx : List Value) (a : Int) (w : World) (hU : UsAt w l u) (hC : CapU l u) (hE : RowIn ifR w Ae env) (hel : env.length <= 1048576) (hx : ifE w lx x) (ha1 : -9223372036854775808 <= a) (ha2 : a <= 9223372036854775807) (he : CEnv w) (hg : ErrT w) :
  Calls Tryz.prog 6 #[.agg l.toArray, .slice Ae env.length ce, .agg lx.toArray, .int .i64 a] w fun e w' => e = .returned (.bool true) /\ Below w.heap.size w w' := by
 have HU := hZ hU
 have HC := hZ hC
 have HXI := hZ hx
 obtain ⟨Ai, ci, Ad, cd, rfl, z2, z3, -, -⟩ := hU
 obtain ⟨At, ct, Av, cv, rfl, -⟩ := hx
 have hcaps := hC Ai ci Ad cd rfl
 obtain ⟨ni, hni⟩ : ∃ ni, ni = u.imps.length := ⟨_, rfl⟩
 obtain ⟨nd, hnd⟩ : ∃ nd, nd = u.lines.length := ⟨_, rfl⟩
 obtain ⟨ne, hne⟩ : ∃ ne, ne = env.length := ⟨_, rfl⟩
 have HNI := hZ hni
 have HND := hZ hnd
 have HNE := hZ hne
 rw [<- hni] at z2
 rw [<- hnd] at z3
 rw [<- hne] at hel
 rw [<- hni, <- hnd] at hcaps
 obtain ⟨hci, hcd⟩ := hcaps
 obtain ⟨W2, hW2, B2, O0, O1, hl2⟩ := two_boxes w #[.slice Ai ni ci, .slice Ad nd cd] #[.string x.pkg, .int .i64 x.major, .string x.mod, .slice At x.types.length ct, .slice Av x.vals.length cv] 25 50
 have HB0 := hZ B2
 have HUX : Hid (∀ wx, Below W2.heap.size W2 wx -> wx.heap[w.heap.size]? = some (.cells #[.slice Ai ni ci, .slice Ad nd cd] 25 (0, 0))) := hZ (fun wx hb => (hb.block _ (by omega)).trans O0)
 have HXX : Hid (∀ wx, Below W2.heap.size W2 wx -> wx.heap[w.heap.size + 1]? = some (.cells #[.string x.pkg, .int .i64 x.major, .string x.mod, .slice At x.types.length ct, .slice Av x.vals.length cv] 50 (0, 0))) := hZ (fun wx hb => (hb.block _ hl2).trans O1)
 have HUV : Hid (∀ wx, Below W2.heap.size W2 wx -> UsAt wx [.slice Ai ni ci, .slice Ad nd cd] u) := hZ (fun wx hb => by rw [hni, hnd]; exact HU.out.below (below_over HB0.out hb))
 have HCV : Hid (CapU [.slice Ai ni ci, .slice Ad nd cd] u) := hZ (by rw [hni, hnd]; exact HC.out)
 have HEV : Hid (∀ wx, Below W2.heap.size W2 wx -> RowIn ifR wx Ae env) := hZ (fun wx hb => hE.below (below_over HB0.out hb))
 have HIV : Hid (∀ wx, Below W2.heap.size W2 wx -> ifE wx [.string x.pkg, .int .i64 x.major, .string x.mod, .slice At x.types.length ct, .slice Av x.vals.length cv] x) := hZ (fun wx hb => ifR.keep _ _ _ _ HXI.out (below_over HB0.out hb))
 have UP := hZ (up11_any W2 (he.on B2) (hg.on B2))
 have HW := hZ hW2
 rw [<- hni, <- hnd, <- hne]
 clear hW2 B2 O0 O1 hE HU HC HXI hC hni hnd hne he hg
 go_enter Tryz.func6, Tryz.ntmps6
 go_upto_region 1 with fail
 rw [<- HW.out]
 clear HW
 go_wp2_with fail
 refine UP.out.mono ?_; rintro e w1 ⟨rfl, hb1⟩
 have HB1 := hZ hb1
 clear hb1 UP
 obtain ⟨x0, x1⟩ := cq2 (HUX.out w1 HB1.out)
 simp at x0 x1
 have FU := hZ (rfew11_any u [.slice Ai ni ci, .slice Ad nd cd] w1 (HUV.out w1 HB1.out))
 go_wp2_with fail
 refine FU.out.mono ?_; rintro e w2 ⟨rfl, hb2⟩
 have HB2 := hZ (below_over HB1.out hb2)
 clear hb2 FU x0 x1
 obtain ⟨qu, hqu⟩ : ∃ qu, qu = fewU u := ⟨_, rfl⟩
 rw [<- hqu]
 obtain ⟨qe, hqe⟩ : ∃ qe, qe = fewE (env ++ [x]) := ⟨_, rfl⟩
 have HQU := hZ hqu
 have HQE := hZ hqe
 clear hqu hqe
 have FW : Hid (∀ (A' : Option Addr) (c' : Nat) (wx : World), RowIn ifR wx A' (env ++ [x]) -> Calls Tryz.prog 17 #[.slice A' (ne + 1) c'] wx fun e w' => e = .returned (.bool qe) /\ Below wx.heap.size wx w') := hZ (fun A' c' wx hr => by
  have h := rfew8_any A' c' (env ++ [x]) wx hr (by rw [List.length_append]; have := HNE.out; simp; omega);rw [<- HQE.out, List.length_append, <- HNE.out] at h;exact h)
 have hne47 : ne <= 1048576 := hel
 have KX : Hid (∀ wx : World, Below w2.heap.size w2 wx -> wx.cell? ⟨w.heap.size + 1, 0, none⟩ = some (.string x.pkg) /\ wx.cell? ⟨w.heap.size + 1, 1, none⟩ = some (.int .i64 x.major) /\ wx.cell? ⟨w.heap.size + 1, 2, none⟩ = some (.string x.mod) /\ wx.cell? ⟨w.heap.size + 1, 3, none⟩ = some (.slice At x.types.length ct) /\ wx.cell? ⟨w.heap.size + 1, 4, none⟩ = some (.slice Av x.vals.length cv)) := hZ (fun wx hb => by
  have X := HXX.out wx (below_over HB2.out hb);exact ⟨cZ X 0, cZ X 1, cZ X 2, cZ X 3, cZ X 4⟩)
 go_upto_region 3 with fail
 go_cut [11] (fun s11 wx => s11 = .bool qe /\ Below w2.heap.size w2 wx)
 case first =>
  have hH0 := KX.out w2.drew (Below.drew (Below.refl _ _));refine AnyX.start (fun wx => wx.cell? ⟨w.heap.size + 1, 0, none⟩ = some (.string x.pkg) /\ wx.cell? ⟨w.heap.size + 1, 1, none⟩ = some (.int .i64 x.major) /\ wx.cell? ⟨w.heap.size + 1, 2, none⟩ = some (.string x.mod) /\ wx.cell? ⟨w.heap.size + 1, 3, none⟩ = some (.slice At x.types.length ct) /\ wx.cell? ⟨w.heap.size + 1, 4, none⟩ = some (.slice Av x.vals.length cv)) (fun k => decide (6 <= k)) (by kernel_rfl) ?_;refine AnyX.mv (i := 1) (v := ?_) rfl (fun _ _ _ h => h) (Or.inl ⟨by rfl, ?_⟩) ?_;rotate_left
  ·(intro wS _; go_simp; try with_reducible rfl)
  simp only [getElem_toArray, getElem_cons_succ, getElem_cons_zero];simp only [Act.put, setIfInBounds_toArray, set_cons_zero, set_cons_succ];refine AnyX.tk (i := 3) (v := ?_) rfl (fun _ _ _ h => h) hH0 (Or.inl ⟨by rfl, ?_⟩) ?_;rotate_left
  ·(intro wS hS; (try obtain ⟨p0, p1, p2, p3, p4⟩ := hS); go_simp; try with_reducible rfl)
  simp only [getElem_toArray, getElem_cons_succ, getElem_cons_zero];simp only [Act.put, setIfInBounds_toArray, set_cons_zero, set_cons_succ];clear hH0;obtain ⟨inf, hi1, hy0, hy1, hy2⟩ := info_parts if_info11;have hxW := HIV.out w2 HB2.out;obtain ⟨C, hCl, hC5, hCE, hCA, hCS⟩ := (HEV.out w2 HB2.out).src (by decide);have hlC : C.flatten.length = ne * 5 := by rw [flatC_len C hC5, hCl, <- HNE.out]; rfl
  have hone := all_one_cells hCl hCE (fun y z h => if_one h);refine AnyX.go2 0 4 (by kernel_rfl) rfl rfl (by rfl) (by rfl) (fun K hK => ?_) (fun K hK => ?_)
  ·skip
   simp only [getElem_toArray, getElem_cons_succ, getElem_cons_zero];go_simp
   obtain ⟨v1, hv1⟩ : ∃ wa, wa = (w2.alloc (.cells #[] 50)).drew := ⟨_, rfl⟩;have hB1 : Below w2.heap.size w2 v1 := by rw [hv1]; exact Below.drew (below_new (Below.refl _ _) _)
   have X1 : v1.heap[w2.heap.size]? = some (.cells #[] 50 (0, 0)) := by rw [hv1]; exact heap_alloc_new w2 _
   have sz1 : w2.heap.size + 1 <= v1.heap.size /\ v1.heap.size <= w2.heap.size + 1 := by rw [hv1]; simp
   have ge1 : w2.heap.size <= w2.heap.size := Nat.le_refl _;have own1 : v1.ownsRow w2.heap.size 50 5 (.slice (some ⟨w2.heap.size, 0, none⟩) 0 0) 0 [] := by rw [hv1]; exact World.ownsRow_lit (base := w2.heap.size) (e := 50) (size := 5) w2 #[] 0 (Nat.le_refl _) (by decide) rfl
   have hHa1 := KX.out v1 hB1;rw [hv1] at hHa1;refine hK.out _ _ (fun hoff _ => hHa1) ?_;clear hK;(try simp only [Act.put, setIfInBounds_toArray, set_cons_zero, set_cons_succ]);rw [<- hv1];clear hHa1 hv1;refine AnyX.go2 2 4 (by kernel_rfl) rfl rfl (by rfl) (by rfl) (fun K hK => ?_) (fun K hK => ?_)
   ·skip
    simp only [getElem_toArray, getElem_cons_succ, getElem_cons_zero];refine wp_append_src (.tmp 20) (.tmp 21) 41 rfl (w2.heap.size) 50 inf _ 5 88 Tryz.underlying41 hi1 hy0 hy1 hy2 (by rfl) (Nat.zero_lt_succ 4) (.slice (some ⟨w2.heap.size, 0, none⟩) 0 0) (0) [] rfl own1 Ae (ne) (ce) C.flatten rfl (fun e => by have := hCA e; have := HNE.out; omega) hlC (hCS _ hB1) hone (by unfold maxLen; omega) (by omega) (by have := hB1.size; omega) ?_;intro V2 v2 own2 gr2;rw [Nat.zero_add, List.nil_append] at own2;have ob2 : ∀ b, Value.ownBlock (.slice (some ⟨w2.heap.size, 0, none⟩) 0 0) = some b -> w2.heap.size <= b := fun b e => (own1.lt b e).1
    have hB2 : Below w2.heap.size w2 v2 := hB1.trans ⟨gr2.os, gr2.tape, gr2.output, gr2.size, fun b hb => gr2.block b (by have := hB1.size; omega) (fun e => by have := ob2 b e.symm; omega)⟩;refine hK.out _ _ (fun hoff _ => KX.out _ hB2) ?_;clear hK;(try simp only [Act.put, setIfInBounds_toArray, set_cons_zero, set_cons_succ]);refine AnyX.go 4 (by kernel_rfl) rfl rfl (fun K hK => ?_);simp only [getElem_toArray, getElem_cons_succ, getElem_cons_zero];go_simp
    obtain ⟨v3, hv3⟩ : ∃ wa, wa = v2.alloc (.cells #[.string x.pkg, .int .i64 x.major, .string x.mod, .slice At x.types.length ct, .slice Av x.vals.length cv] 50) := ⟨_, rfl⟩;have hB3 : Below w2.heap.size w2 v3 := by rw [hv3]; exact below_new hB2 _
    have X3 : v3.heap[v2.heap.size]? = some (.cells #[.string x.pkg, .int .i64 x.major, .string x.mod, .slice At x.types.length ct, .slice Av x.vals.length cv] 50 (0, 0)) := by rw [hv3]; exact heap_alloc_new v2 _
    have sz3 : v2.heap.size + 1 <= v3.heap.size /\ v3.heap.size <= v2.heap.size + 1 := by rw [hv3]; simp
    have ge3 : w2.heap.size <= v2.heap.size := hB2.size;have own3 : v3.ownsRow (w2.heap.size) 50 5 V2 (ne) C.flatten := by rw [hv3]; exact World.ownsRow.alloc own2 _
    have old3 : ∀ b, Value.ownBlock V2 = some b -> b < v2.heap.size := fun b e => (own2.lt b e).2
    have lx3 : v2.heap.size < v3.heap.size := by omega
    have hHa3 := KX.out v3 hB3;rw [hv3] at hHa3;refine hK.out _ _ (fun hoff _ => hHa3) ?_;clear hK;(try simp only [Act.put, setIfInBounds_toArray, set_cons_zero, set_cons_succ]);rw [<- hv3];clear hHa3 hv3;refine AnyX.go 5 (by kernel_rfl) rfl rfl (fun K hK => ?_);simp only [getElem_toArray, getElem_cons_succ, getElem_cons_zero];refine wp_append_own _ (.tmp 22) (.tmp 24) 41 rfl (w2.heap.size) 50 inf _ 5 88 Tryz.underlying41 hi1 hy0 hy1 hy2 (by rfl) (Nat.zero_lt_succ 4) V2 ne C.flatten rfl own3 ⟨v2.heap.size, 0, none⟩ 1 1 [.string x.pkg, .int .i64 x.major, .string x.mod, .slice At x.types.length ct, .slice Av x.vals.length cv] rfl rfl (fun j v hv => by rw [WideShapes.add_plain, Nat.zero_add, cZ X3, <- hv, <- List.getElem?_toArray]) (if_one hxW) (by unfold maxLen; omega) (by omega) (by have := hB3.size; omega) ?_;intro V6 w6 own6 gr6 at6;have ob6 : ∀ b, Value.ownBlock V2 = some b -> w2.heap.size <= b := fun b e => (own3.lt b e).1
    have hB6 : Below w2.heap.size w2 w6 := hB3.trans ⟨gr6.os, gr6.tape, gr6.output, gr6.size, fun b hb => gr6.block b (by have := hB3.size; omega) (fun e => by have := ob6 b e.symm; omega)⟩;obtain ⟨A6, c6, rfl⟩ := own_slice own6;have hrow : RowIn ifR w6 A6 (env ++ [x]) := env_row HNE.out own6 hCl hC5 hCE hxW hB6;refine hK.out _ _ (fun hoff _ => KX.out _ hB6) ?_;clear hK;(try simp only [Act.put, setIfInBounds_toArray, set_cons_zero, set_cons_succ]);refine AnyX.go 6 (by kernel_rfl) rfl rfl (fun K hK => ?_);simp only [getElem_toArray, getElem_cons_succ, getElem_cons_zero];go_simp
    refine (FW.out A6 c6 w6 hrow).mono ?_; rintro e w7 ⟨rfl, hb7⟩
    simp only [];refine hK.out _ _ (fun hoff _ => absurd hoff (by decide)) ?_;clear hK;(try simp only [Act.put, setIfInBounds_toArray, set_cons_zero, set_cons_succ]);refine AnyX.mv (i := 7) (v := ?_) rfl (fun _ _ _ h => h) (Or.inl ⟨by rfl, ?_⟩) ?_;rotate_left
    ·(intro wS _; go_simp; try with_reducible rfl)
    simp only [getElem_toArray, getElem_cons_succ, getElem_cons_zero];simp only [Act.put, setIfInBounds_toArray, set_cons_zero, set_cons_succ];refine AnyX.done (by kernel_rfl) ?_ _;go_wp2_with fail
    go_meet
    exact ⟨rfl, below_over hB6 hb7⟩
   ·skip
    simp only [getElem_toArray, getElem_cons_succ, getElem_cons_zero];go_simp
    obtain ⟨v4, hv4⟩ : ∃ wa, wa = v1.alloc (.cells #[.string x.pkg, .int .i64 x.major, .string x.mod, .slice At x.types.length ct, .slice Av x.vals.length cv] 50) := ⟨_, rfl⟩;have hB4 : Below w2.heap.size w2 v4 := by rw [hv4]; exact below_new hB1 _
    have X4 : v4.heap[v1.heap.size]? = some (.cells #[.string x.pkg, .int .i64 x.major, .string x.mod, .slice At x.types.length ct, .slice Av x.vals.length cv] 50 (0, 0)) := by rw [hv4]; exact heap_alloc_new v1 _
    have sz4 : v1.heap.size + 1 <= v4.heap.size /\ v4.heap.size <= v1.heap.size + 1 := by rw [hv4]; simp
    have ge4 : w2.heap.size <= v1.heap.size := hB1.size;have own4 : v4.ownsRow (w2.heap.size) 50 5 (.slice (some ⟨w2.heap.size, 0, none⟩) 0 0) (0) [] := by rw [hv4]; exact World.ownsRow.alloc own1 _
    have old4 : ∀ b, Value.ownBlock (.slice (some ⟨w2.heap.size, 0, none⟩) 0 0) = some b -> b < v1.heap.size := fun b e => (own1.lt b e).2
    have lx4 : v1.heap.size < v4.heap.size := by omega
    have hHa4 := KX.out v4 hB4;rw [hv4] at hHa4;refine hK.out _ _ (fun hoff _ => hHa4) ?_;clear hK;(try simp only [Act.put, setIfInBounds_toArray, set_cons_zero, set_cons_succ]);rw [<- hv4];clear hHa4 hv4;refine AnyX.go 2 (by kernel_rfl) rfl rfl (fun K hK => ?_);simp only [getElem_toArray, getElem_cons_succ, getElem_cons_zero];refine wp_append_src (.tmp 20) (.tmp 21) 41 rfl (w2.heap.size) 50 inf _ 5 88 Tryz.underlying41 hi1 hy0 hy1 hy2 (by rfl) (Nat.zero_lt_succ 4) (.slice (some ⟨w2.heap.size, 0, none⟩) 0 0) (0) [] rfl own4 Ae (ne) (ce) C.flatten rfl (fun e => by have := hCA e; have := HNE.out; omega) hlC (hCS _ hB4) hone (by unfold maxLen; omega) (by omega) (by have := hB4.size; omega) ?_;intro V5 v5 own5 gr5;rw [Nat.zero_add, List.nil_append] at own5;have ob5 : ∀ b, Value.ownBlock (.slice (some ⟨w2.heap.size, 0, none⟩) 0 0) = some b -> w2.heap.size <= b := fun b e => (own4.lt b e).1
    have hB5 : Below w2.heap.size w2 v5 := hB4.trans ⟨gr5.os, gr5.tape, gr5.output, gr5.size, fun b hb => gr5.block b (by have := hB4.size; omega) (fun e => by have := ob5 b e.symm; omega)⟩;have Y5 := (gr5.block v1.heap.size lx4 (fun e => absurd e.symm (fun e => Nat.lt_irrefl _ (old4 _ e)))).trans X4;have lu5 := Nat.lt_of_lt_of_le lx4 gr5.size;refine hK.out _ _ (fun hoff _ => KX.out _ hB5) ?_;clear hK;(try simp only [Act.put, setIfInBounds_toArray, set_cons_zero, set_cons_succ]);refine AnyX.go 5 (by kernel_rfl) rfl rfl (fun K hK => ?_);simp only [getElem_toArray, getElem_cons_succ, getElem_cons_zero];refine wp_append_own _ (.tmp 22) (.tmp 24) 41 rfl (w2.heap.size) 50 inf _ 5 88 Tryz.underlying41 hi1 hy0 hy1 hy2 (by rfl) (Nat.zero_lt_succ 4) V5 ne C.flatten rfl own5 ⟨v1.heap.size, 0, none⟩ 1 1 [.string x.pkg, .int .i64 x.major, .string x.mod, .slice At x.types.length ct, .slice Av x.vals.length cv] rfl rfl (fun j v hv => by rw [WideShapes.add_plain, Nat.zero_add, cZ Y5, <- hv, <- List.getElem?_toArray]) (if_one hxW) (by unfold maxLen; omega) (by omega) (by have := hB5.size; omega) ?_;intro V6 w6 own6 gr6 at6;have ob6 : ∀ b, Value.ownBlock V5 = some b -> w2.heap.size <= b := fun b e => (own5.lt b e).1
    have hB6 : Below w2.heap.size w2 w6 := hB5.trans ⟨gr6.os, gr6.tape, gr6.output, gr6.size, fun b hb => gr6.block b (by have := hB5.size; omega) (fun e => by have := ob6 b e.symm; omega)⟩;obtain ⟨A6, c6, rfl⟩ := own_slice own6;have hrow : RowIn ifR w6 A6 (env ++ [x]) := env_row HNE.out own6 hCl hC5 hCE hxW hB6;refine hK.out _ _ (fun hoff _ => KX.out _ hB6) ?_;clear hK;(try simp only [Act.put, setIfInBounds_toArray, set_cons_zero, set_cons_succ]);refine AnyX.go 6 (by kernel_rfl) rfl rfl (fun K hK => ?_);simp only [getElem_toArray, getElem_cons_succ, getElem_cons_zero];go_simp
    refine (FW.out A6 c6 w6 hrow).mono ?_; rintro e w7 ⟨rfl, hb7⟩
    simp only [];refine hK.out _ _ (fun hoff _ => absurd hoff (by decide)) ?_;clear hK;(try simp only [Act.put, setIfInBounds_toArray, set_cons_zero, set_cons_succ]);refine AnyX.mv (i := 7) (v := ?_) rfl (fun _ _ _ h => h) (Or.inl ⟨by rfl, ?_⟩) ?_;rotate_left
    ·(intro wS _; go_simp; try with_reducible rfl)
    simp only [getElem_toArray, getElem_cons_succ, getElem_cons_zero];simp only [Act.put, setIfInBounds_toArray, set_cons_zero, set_cons_succ];refine AnyX.done (by kernel_rfl) ?_ _;go_wp2_with fail
    go_meet
    exact ⟨rfl, below_over hB6 hb7⟩
  ·skip
   simp only [getElem_toArray, getElem_cons_succ, getElem_cons_zero];go_simp
   obtain ⟨v6, hv6⟩ : ∃ wa, wa = (w2.alloc (.cells #[.string x.pkg, .int .i64 x.major, .string x.mod, .slice At x.types.length ct, .slice Av x.vals.length cv] 50)).drew := ⟨_, rfl⟩;have hB6 : Below w2.heap.size w2 v6 := by rw [hv6]; exact Below.drew (below_new (Below.refl _ _) _)
   have X6 : v6.heap[w2.heap.size]? = some (.cells #[.string x.pkg, .int .i64 x.major, .string x.mod, .slice At x.types.length ct, .slice Av x.vals.length cv] 50 (0, 0)) := by rw [hv6]; exact heap_alloc_new w2 _
   have sz6 : w2.heap.size + 1 <= v6.heap.size /\ v6.heap.size <= w2.heap.size + 1 := by rw [hv6]; simp
   have ge6 : w2.heap.size <= w2.heap.size := Nat.le_refl _;have lx6 : w2.heap.size < v6.heap.size := by omega
   have hHa6 := KX.out v6 hB6;rw [hv6] at hHa6;refine hK.out _ _ (fun hoff _ => hHa6) ?_;clear hK;(try simp only [Act.put, setIfInBounds_toArray, set_cons_zero, set_cons_succ]);rw [<- hv6];clear hHa6 hv6;refine AnyX.go 0 (by kernel_rfl) rfl rfl (fun K hK => ?_);simp only [getElem_toArray, getElem_cons_succ, getElem_cons_zero];go_simp
   obtain ⟨v7, hv7⟩ : ∃ wa, wa = v6.alloc (.cells #[] 50) := ⟨_, rfl⟩;have hB7 : Below w2.heap.size w2 v7 := by rw [hv7]; exact below_new hB6 _
   have X7 : v7.heap[v6.heap.size]? = some (.cells #[] 50 (0, 0)) := by rw [hv7]; exact heap_alloc_new v6 _
   have sz7 : v6.heap.size + 1 <= v7.heap.size /\ v7.heap.size <= v6.heap.size + 1 := by rw [hv7]; simp
   have ge7 : w2.heap.size <= v6.heap.size := hB6.size;have own7 : v7.ownsRow v6.heap.size 50 5 (.slice (some ⟨v6.heap.size, 0, none⟩) 0 0) 0 [] := by rw [hv7]; exact World.ownsRow_lit (base := v6.heap.size) (e := 50) (size := 5) v6 #[] 0 (Nat.le_refl _) (by decide) rfl
   have Bx7 : Below v6.heap.size v6 v7 := by rw [hv7]; exact below_new (Below.refl _ _) _
   have Y7 := (Bx7.block _ lx6).trans X6;have lu7 : w2.heap.size < v7.heap.size := by omega
   have hHa7 := KX.out v7 hB7;rw [hv7] at hHa7;refine hK.out _ _ (fun hoff _ => hHa7) ?_;clear hK;(try simp only [Act.put, setIfInBounds_toArray, set_cons_zero, set_cons_succ]);rw [<- hv7];clear hHa7 hv7;refine AnyX.go 2 (by kernel_rfl) rfl rfl (fun K hK => ?_);simp only [getElem_toArray, getElem_cons_succ, getElem_cons_zero];refine wp_append_src (.tmp 20) (.tmp 21) 41 rfl (v6.heap.size) 50 inf _ 5 88 Tryz.underlying41 hi1 hy0 hy1 hy2 (by rfl) (Nat.zero_lt_succ 4) (.slice (some ⟨v6.heap.size, 0, none⟩) 0 0) (0) [] rfl own7 Ae (ne) (ce) C.flatten rfl (fun e => by have := hCA e; have := HNE.out; omega) hlC (hCS _ hB7) hone (by unfold maxLen; omega) (by omega) (by have := hB7.size; omega) ?_;intro V8 v8 own8 gr8;rw [Nat.zero_add, List.nil_append] at own8;have ob8 : ∀ b, Value.ownBlock (.slice (some ⟨v6.heap.size, 0, none⟩) 0 0) = some b -> v6.heap.size <= b := fun b e => (own7.lt b e).1
   have hB8 : Below w2.heap.size w2 v8 := hB7.trans ⟨gr8.os, gr8.tape, gr8.output, gr8.size, fun b hb => gr8.block b (by have := hB7.size; omega) (fun e => by have := ob8 b e.symm; omega)⟩;have Y8 := (gr8.block w2.heap.size lu7 (fun e => absurd e.symm (fun e => by have := (own7.lt _ e).1; omega))).trans Y7;have lu8 := Nat.lt_of_lt_of_le lu7 gr8.size;refine hK.out _ _ (fun hoff _ => KX.out _ hB8) ?_;clear hK;(try simp only [Act.put, setIfInBounds_toArray, set_cons_zero, set_cons_succ]);refine AnyX.go 5 (by kernel_rfl) rfl rfl (fun K hK => ?_);simp only [getElem_toArray, getElem_cons_succ, getElem_cons_zero];refine wp_append_own _ (.tmp 22) (.tmp 24) 41 rfl (v6.heap.size) 50 inf _ 5 88 Tryz.underlying41 hi1 hy0 hy1 hy2 (by rfl) (Nat.zero_lt_succ 4) V8 ne C.flatten rfl own8 ⟨w2.heap.size, 0, none⟩ 1 1 [.string x.pkg, .int .i64 x.major, .string x.mod, .slice At x.types.length ct, .slice Av x.vals.length cv] rfl rfl (fun j v hv => by rw [WideShapes.add_plain, Nat.zero_add, cZ Y8, <- hv, <- List.getElem?_toArray]) (if_one hxW) (by unfold maxLen; omega) (by omega) (by have := hB8.size; omega) ?_;intro V6 w6 own6 gr6 at6;have ob6 : ∀ b, Value.ownBlock V8 = some b -> v6.heap.size <= b := fun b e => (own8.lt b e).1
   have hB6 : Below w2.heap.size w2 w6 := hB8.trans ⟨gr6.os, gr6.tape, gr6.output, gr6.size, fun b hb => gr6.block b (by have := hB8.size; omega) (fun e => by have := ob6 b e.symm; omega)⟩;obtain ⟨A6, c6, rfl⟩ := own_slice own6;have hrow : RowIn ifR w6 A6 (env ++ [x]) := env_row HNE.out own6 hCl hC5 hCE hxW hB6;refine hK.out _ _ (fun hoff _ => KX.out _ hB6) ?_;clear hK;(try simp only [Act.put, setIfInBounds_toArray, set_cons_zero, set_cons_succ]);refine AnyX.go 6 (by kernel_rfl) rfl rfl (fun K hK => ?_);simp only [getElem_toArray, getElem_cons_succ, getElem_cons_zero];go_simp
   refine (FW.out A6 c6 w6 hrow).mono ?_; rintro e w7 ⟨rfl, hb7⟩
   simp only [];refine hK.out _ _ (fun hoff _ => absurd hoff (by decide)) ?_;clear hK;(try simp only [Act.put, setIfInBounds_toArray, set_cons_zero, set_cons_succ]);refine AnyX.mv (i := 7) (v := ?_) rfl (fun _ _ _ h => h) (Or.inl ⟨by rfl, ?_⟩) ?_;rotate_left
   ·(intro wS _; go_simp; try with_reducible rfl)
   simp only [getElem_toArray, getElem_cons_succ, getElem_cons_zero];simp only [Act.put, setIfInBounds_toArray, set_cons_zero, set_cons_succ];refine AnyX.done (by kernel_rfl) ?_ _;go_wp2_with fail
   go_meet
   exact ⟨rfl, below_over hB6 hb7⟩
 case rest =>
 obtain ⟨rfl, hbc⟩ := hcut
 obtain ⟨w3, rfl⟩ : ∃ w3 : World, w3 = wc := ⟨_, rfl⟩
 have HB3 := hZ (below_over HB2.out hbc)
 clear hbc KX FW
 have x1 := cZ (HUX.out w3 HB3.out) 1
 simp at x1
 cases qu with
 | false =>
  go_wp2_with fail
  go_ret;exact ⟨rfl, below_over HB0.out HB3.out⟩
 | true =>
 cases qe with
 | false =>
  go_wp2_with fail
  go_ret;exact ⟨rfl, below_over HB0.out HB3.out⟩
 | true =>
 by_cases hnd0 : nd = 0
 ·have e0 : ((nd : Int) == 0) = true := by rw [hnd0]; rfl
  clear hnd0;go_wp2_with fail
  go_ret;exact ⟨rfl, below_over HB0.out HB3.out⟩
 have e0 : ((nd : Int) == 0) = false := by simp; exact hnd0
 by_cases hn99 : ne <= 99
 rotate_left
 ·have e1 : (99 : Int) < ne := by omega
  clear hnd0 hn99;go_wp2_with fail
  go_ret;exact ⟨rfl, below_over HB0.out HB3.out⟩
 have e1 : ¬ (99 : Int) < ne := by omega
 have CK0 := ccheck11_any u env [.slice Ai ni ci, .slice Ad nd cd] Ae ce w3 (HUV.out w3 HB3.out) HCV.out (HEV.out w3 HB3.out) (by rw [<- HNE.out]; omega)
 rw [<- HNE.out] at CK0
 have CK := hZ CK0
 have HND0 := hZ hnd0
 clear CK0 hnd0
 have x0 := cZ (HUX.out w3 HB3.out) 0
 simp at x0
 go_wp2_with (first | fail)
 refine CK.out.mono ?_; rintro e w4 ⟨c, a0, v, hk, rfl, hev, hb4⟩
 have HB4 := hZ (below_over HB3.out hb4)
 clear hb4 CK x0 x1 e0 e1
 rcases evU_nil hev with ⟨rfl, rfl⟩ | ⟨-, T, y, rfl⟩
 rotate_left
 ·clear hev hk
  go_wp2_with fail
  go_ret;exact ⟨rfl, below_over HB0.out HB4.out⟩
 have HK := hZ hk
 clear hev hk
 obtain ⟨z, hz⟩ : ∃ z : Nat, (z : Int) = if a < 0 then -(a + 1) else a := by
  by_cases ha : a < 0
  ·exact ⟨(-(a + 1)).toNat, by rw [if_pos ha]; omega⟩
  ·exact ⟨a.toNat, by rw [if_neg ha]; omega⟩
 have HZ := hZ hz
 clear hz
 go_upto_if 52 with fail
 go_cut [3] (fun s3 wx => s3 = .int .i64 z /\ wx = w4)
 case first =>
  by_cases ha : a < 0
  ·have hzz := HZ.out
   rw [if_pos ha] at hzz;have hw1 : IntKind.i64.wrap (a + 1) = a + 1 := IntWalk.i64_in _ (by omega);have hw2 : IntKind.i64.wrap (-(a + 1)) = (z : Int) := by rw [<- hzz]; exact IntWalk.i64_in _ (by omega)
   clear hzz;go_wp2_with fail
   go_meet
   exact ⟨rfl, rfl⟩
  ·have hzz := HZ.out
   rw [if_neg ha] at hzz;go_wp2_with fail
   go_meet
   exact ⟨by rw [hzz], rfl⟩
 case rest =>
 obtain ⟨rfl, rfl⟩ := hcut
 obtain ⟨w4, rfl⟩ : ∃ w4 : World, w4 = wc := ⟨_, rfl⟩
 have hn0 : ¬ nd = 0 := HND0.out
 obtain ⟨k, hk⟩ : ∃ k, z % nd = k := ⟨_, rfl⟩
 have hkn : k < nd := by rw [<- hk]; exact Nat.mod_lt _ (by omega)
 have hrem : (z : Int).tmod (nd : Int) = (k : Int) := by rw [<- Int.ofNat_tmod, hk]
 have hz0 : ¬ (z : Int) < 0 := by omega
 have x1 := cZ (HUX.out w4 HB4.out) 1
 simp at x1
 clear HZ ha1 ha2
 obtain ⟨g, o, rfl⟩ : ∃ g o, Ad = some ⟨g, o, none⟩ := by
  obtain ⟨Ai', ci', Ad', cd', e, -, -, -, hD⟩ := HUV.out w4 HB4.out;simp at e;obtain ⟨d, hd⟩ : ∃ d, u.lines[0]? = some d := ⟨_, List.getElem?_eq_getElem (by rw [<- HND.out]; omega)⟩;obtain ⟨g, o, l, e', -⟩ := hD 0 d hd;exact ⟨g, o, by rw [e.2.1]; exact e'⟩
 obtain ⟨k1, hk1⟩ : ∃ k1, k + 1 = k1 := ⟨_, rfl⟩
 obtain ⟨ls, hls⟩ : ∃ ls, ls = u.lines.take k ++ u.lines.drop (k + 1) := ⟨_, rfl⟩
 have HLS := hZ hls
 have HK1 := hZ hk1
 have hk1n : k1 <= nd := by omega
 have hk01 : k < k1 := by omega
 have hwk : IntKind.i64.wrap ((k : Int) + 1) = (k1 : Int) := by rw [show (k : Int) + 1 = (k1 : Int) by omega]; exact IntWalk.i64_in _ (by omega)
 have KU : Hid (∀ wx : World, Below w4.heap.size w4 wx -> wx.cell? ⟨w.heap.size, 0, none⟩ = some (.slice Ai ni ci) /\ wx.cell? ⟨w.heap.size, 1, none⟩ = some (.slice (some ⟨g, o, none⟩) nd cd)) := hZ (fun wx hb => by
  have X := HUX.out wx (below_over HB4.out hb);exact ⟨cZ X 0, cZ X 1⟩)
 have hlD : RowIn lnR w4 (some ⟨g, o, none⟩) u.lines := by
  obtain ⟨Ai', ci', Ad', cd', e, -, -, -, hD⟩ := HUV.out w4 HB4.out;simp at e;obtain ⟨-, rfl, -⟩ := e;exact hD
 obtain ⟨C, hCl, hC10, hCE, -, hCS⟩ := hlD.src (by decide)
 have HCl := hZ hCl
 have HC10 := hZ hC10
 have HCE := hZ hCE
 have HCS := hZ hCS
 have HI4 : Hid (RowIn imR w4 Ai u.imps) := hZ (by
  obtain ⟨Ai', ci', Ad', cd', e, -, -, hI, -⟩ := HUV.out w4 HB4.out;simp at e;obtain ⟨⟨rfl, -⟩, -⟩ := e;exact hI)
 have hnd100 : nd <= 9223372036854775807 := z3
 have hnd47 : (nd : Int) <= 100000000 := by have h := (mayU_parts HK.out.zero.1).2.1; have := HND.out; omega
 clear hls hk1 hlD hCl hC10 hCE hCS
 go_upto_region 12 with fail
 clear hrem hz0 x1 hk
 go_cut [14] (fun s14 wx => ∃ (b : Nat) (A' : Option Addr) (c' : Nat), s14 = .pointer (some ⟨b, 0, none⟩) /\ wx.heap[b]? = some (.cells #[.slice Ai ni ci, .slice A' (k + (nd - k1)) c'] 25 (0, 0)) /\ UsAt wx [.slice Ai ni ci, .slice A' (k + (nd - k1)) c'] ⟨u.imps, ls⟩ /\ CapU [.slice Ai ni ci, .slice A' (k + (nd - k1)) c'] ⟨u.imps, ls⟩ /\ Below w4.heap.size w4 wx)
 case first =>
  have hC0 : (0 : Int) <= k := by omega
  have hk1c : k1 <= cd := by omega
  have hkc : k <= cd := by omega
  have hkcI : (k : Int) <= cd := by omega
  have h01 : (0 : Int) <= k1 := by omega
  have hk1I : (k1 : Int) <= nd := by omega
  have hnc : (nd : Int) <= cd := by omega
  have hk1cI : (k1 : Int) <= cd := by omega
  have hlT : (C.take k).flatten.length = k * 10 := by rw [flatC_len _ (fun l hl => HC10.out l (List.mem_of_mem_take hl)), List.length_take, HCl.out, <- HND.out, Nat.min_eq_left (by omega)]; rfl
  have hlDr : (C.drop k1).flatten.length = (nd - k1) * 10 := by rw [flatC_len _ (fun l hl => HC10.out l (List.mem_of_mem_drop hl)), List.length_drop, HCl.out, <- HND.out]; rfl
  have hone := all_one_cells HCl.out HCE.out (fun y z h => ln_one h)
  have hoT : ∀ v ∈ (C.take k).flatten, v.oneCell' = true := fun v hv => by
   obtain ⟨l, hl, hv⟩ := List.mem_flatten.1 hv;exact hone v (List.mem_flatten.2 ⟨l, List.mem_of_mem_take hl, hv⟩)
  have hoD : ∀ v ∈ (C.drop k1).flatten, v.oneCell' = true := fun v hv => by
   obtain ⟨l, hl, hv⟩ := List.mem_flatten.1 hv;exact hone v (List.mem_flatten.2 ⟨l, List.mem_of_mem_drop hl, hv⟩)
  have hcT : ∀ wx : World, Below w4.heap.size w4 wx -> ∀ j v, (C.take k).flatten[j]? = some v -> wx.cell? (Addr.add ⟨g, o, none⟩ j) = some v := fun wx hb j v hv => HCS.out wx hb _ rfl j v (flat_take k j v hv)
  have hcD : ∀ wx : World, Below w4.heap.size w4 wx -> ∀ j v, (C.drop k1).flatten[j]? = some v -> wx.cell? (Addr.add ⟨g, o + k1 * 10, none⟩ j) = some v := fun wx hb j v hv => by
   rw [flat_drop (k := 10) HC10.out k1 (by rw [HCl.out, <- HND.out]; exact hk1n)] at hv;have := HCS.out wx hb _ rfl _ v hv
   rw [WideShapes.add_plain] at this ⊢;rw [<- Nat.add_assoc] at this;exact this
  have ROWL : Hid (∀ (n : Nat) (wx : World) (lo c : Nat) (A : Option Addr), n = k + (nd - k1) -> Below w4.heap.size w4 wx -> wx.ownsRow lo 60 10 (.slice A n c) n (C.take k ++ C.drop k1).flatten -> RowIn lnR wx A ls /\ ls.length = n) := hZ (fun n wx lo c A hn hb own => by
   have hls : ls.length = n := by rw [HLS.out, List.length_append, List.length_take, List.length_drop, <- HND.out, Nat.min_eq_left (by omega)]; have := HK1.out; omega
   refine ⟨RowIn.of_own (R := lnR) (c := c) (C := C.take k ++ C.drop k1) (by rw [hls]; exact own) (by rw [hls, List.length_append, List.length_take, List.length_drop, HCl.out, <- HND.out, Nat.min_eq_left (by omega)]; omega) (fun y hy => ?_) (fun i y z h1 h2 => ?_), hls⟩
   ·rcases List.mem_append.1 hy with h | h
    ·exact HC10.out y (List.mem_of_mem_take h)
    ·exact HC10.out y (List.mem_of_mem_drop h)
   ·rw [<- HK1.out] at h1
    rw [HLS.out] at h2;exact lnR.keep _ _ _ _ (pairs_cut HCl.out (by rw [<- HND.out]; exact hkn) HCE.out i y z h1 h2) hb)
  by_cases hck : cd = k1
  ·have hD0 : (C.drop k1).flatten = [] := List.length_eq_zero_iff.1 (by rw [hlDr]; rw [show nd - k1 = 0 by omega]; try simp)
   have hck2 := hck.symm;subst hck2;have hz1 : nd - k1 = 0 := by omega
   have hlDr1 : (C.drop k1).flatten.length = 0 * 10 := by rw [hD0]; rfl
   have hH0 := KU.out w4.drew (Below.drew (Below.refl _ _));refine AnyX.start (fun wx => wx.cell? ⟨w.heap.size, 0, none⟩ = some (.slice Ai ni ci) /\ wx.cell? ⟨w.heap.size, 1, none⟩ = some (.slice (some ⟨g, o, none⟩) nd k1)) (fun k => [14, 16].contains k) (by kernel_rfl) ?_;refine AnyX.mv (i := 0) (v := ?_) rfl (fun _ _ _ h => h) (Or.inl ⟨by rfl, ?_⟩) ?_;rotate_left
   ·(intro wS _; go_simp; try with_reducible rfl)
   simp only [getElem_toArray, getElem_cons_succ, getElem_cons_zero];simp only [Act.put, setIfInBounds_toArray, set_cons_zero, set_cons_succ];refine AnyX.tk (i := 1) (v := ?_) rfl (fun _ _ _ h => h) hH0 (Or.inl ⟨by rfl, ?_⟩) ?_;rotate_left
   ·(intro wS hS; (try obtain ⟨p0, p1⟩ := hS); go_simp; try with_reducible rfl)
   simp only [getElem_toArray, getElem_cons_succ, getElem_cons_zero];simp only [Act.put, setIfInBounds_toArray, set_cons_zero, set_cons_succ];refine AnyX.mv (i := 3) (v := ?_) rfl (fun _ _ _ h => h) (Or.inl ⟨by rfl, ?_⟩) ?_;rotate_left
   ·(intro wS _; go_simp; try with_reducible rfl)
   simp only [getElem_toArray, getElem_cons_succ, getElem_cons_zero];simp only [Act.put, setIfInBounds_toArray, set_cons_zero, set_cons_succ];refine AnyX.tk (i := 4) (v := ?_) rfl (fun _ _ _ h => h) hH0 (Or.inl ⟨by rfl, ?_⟩) ?_;rotate_left
   ·(intro wS hS; (try obtain ⟨p0, p1⟩ := hS); go_simp; try with_reducible rfl)
   simp only [getElem_toArray, getElem_cons_succ, getElem_cons_zero];simp only [Act.put, setIfInBounds_toArray, set_cons_zero, set_cons_succ];refine AnyX.mv (i := 5) (v := ?_) rfl (fun _ _ _ h => h) (Or.inl ⟨by rfl, ?_⟩) ?_;rotate_left
   ·(intro wS _; go_simp; try with_reducible rfl)
   simp only [getElem_toArray, getElem_cons_succ, getElem_cons_zero];simp only [Act.put, setIfInBounds_toArray, set_cons_zero, set_cons_succ];refine AnyX.mv (i := 6) (v := ?_) rfl (fun _ _ _ h => h) (Or.inl ⟨by rfl, ?_⟩) ?_;rotate_left
   ·(intro wS _; go_simp; try with_reducible rfl)
   simp only [getElem_toArray, getElem_cons_succ, getElem_cons_zero];simp only [Act.put, setIfInBounds_toArray, set_cons_zero, set_cons_succ];refine AnyX.mv (i := 8) (v := ?_) rfl (fun _ _ _ h => h) (Or.inl ⟨by rfl, ?_⟩) ?_;rotate_left
   ·(intro wS _; go_simp; try with_reducible rfl)
   simp only [getElem_toArray, getElem_cons_succ, getElem_cons_zero];simp only [Act.put, setIfInBounds_toArray, set_cons_zero, set_cons_succ];refine AnyX.tk (i := 9) (v := ?_) rfl (fun _ _ _ h => h) hH0 (Or.inl ⟨by rfl, ?_⟩) ?_;rotate_left
   ·(intro wS hS; (try obtain ⟨p0, p1⟩ := hS); go_simp; try with_reducible rfl)
   simp only [getElem_toArray, getElem_cons_succ, getElem_cons_zero];simp only [Act.put, setIfInBounds_toArray, set_cons_zero, set_cons_succ];refine AnyX.mv (i := 10) (v := ?_) rfl (fun _ _ _ h => h) (Or.inl ⟨by rfl, ?_⟩) ?_;rotate_left
   ·(intro wS _; go_simp; try with_reducible rfl)
   simp only [getElem_toArray, getElem_cons_succ, getElem_cons_zero];simp only [Act.put, setIfInBounds_toArray, set_cons_zero, set_cons_succ];refine AnyX.mv (i := 11) (v := ?_) rfl (fun _ _ _ h => h) (Or.inl ⟨by rfl, ?_⟩) ?_;rotate_left
   ·(intro wS _; go_simp; try with_reducible rfl)
   simp only [getElem_toArray, getElem_cons_succ, getElem_cons_zero];simp only [Act.put, setIfInBounds_toArray, set_cons_zero, set_cons_succ];refine AnyX.mv (i := 12) (v := ?_) rfl (fun _ _ _ h => h) (Or.inl ⟨by rfl, ?_⟩) ?_;rotate_left
   ·(intro wS _; go_simp; try with_reducible rfl)
   simp only [getElem_toArray, getElem_cons_succ, getElem_cons_zero];simp only [Act.put, setIfInBounds_toArray, set_cons_zero, set_cons_succ];clear hH0;obtain ⟨inf, hi1, hy0, hy1, hy2⟩ := info_parts ln_info;refine AnyX.go2 2 15 (by kernel_rfl) rfl rfl (by rfl) (by rfl) (fun K hK => ?_) (fun K hK => ?_)
   ·skip
    simp only [getElem_toArray, getElem_cons_succ, getElem_cons_zero];go_simp
    obtain ⟨v1, hv1⟩ : ∃ wa, wa = (w4.alloc (.cells #[] 60)).drew := ⟨_, rfl⟩;have hB1 : Below w4.heap.size w4 v1 := by rw [hv1]; exact Below.drew (below_new (Below.refl _ _) _)
    have X1 : v1.heap[w4.heap.size]? = some (.cells #[] 60 (0, 0)) := by rw [hv1]; exact heap_alloc_new w4 _
    have sz1 : w4.heap.size + 1 <= v1.heap.size /\ v1.heap.size <= w4.heap.size + 1 := by rw [hv1]; simp
    have ge1 : w4.heap.size <= w4.heap.size := Nat.le_refl _;have own1 : v1.ownsRow w4.heap.size 60 10 (.slice (some ⟨w4.heap.size, 0, none⟩) 0 0) 0 [] := by rw [hv1]; exact World.ownsRow_lit (base := w4.heap.size) (e := 60) (size := 10) w4 #[] 0 (Nat.le_refl _) (by decide) rfl
    have hHa1 := KU.out v1 hB1;rw [hv1] at hHa1;refine hK.out _ _ (fun hoff _ => hHa1) ?_;clear hK;(try simp only [Act.put, setIfInBounds_toArray, set_cons_zero, set_cons_succ]);rw [<- hv1];clear hHa1 hv1;refine AnyX.go2 7 15 (by kernel_rfl) rfl rfl (by rfl) (by rfl) (fun K hK => ?_) (fun K hK => ?_)
    ·skip
     simp only [getElem_toArray, getElem_cons_succ, getElem_cons_zero];refine wp_append_src (.tmp 63) (.tmp 67) 23 rfl (w4.heap.size) 60 inf _ 10 152 Tryz.underlying23 hi1 hy0 hy1 hy2 (by rfl) (Nat.zero_lt_succ 9) (.slice (some ⟨w4.heap.size, 0, none⟩) 0 0) (0) [] rfl own1 (some ⟨g, o, none⟩) (k) (_) (C.take k).flatten rfl (fun e => by cases e) hlT (fun ad e j v hv => by obtain rfl := Option.some.inj e; exact hcT _ hB1 j v hv) hoT (by unfold maxLen; omega) (by omega) (by have := hB1.size; omega) ?_;intro V2 v2 own2 gr2;rw [Nat.zero_add, List.nil_append] at own2;have ob2 : ∀ b, Value.ownBlock (.slice (some ⟨w4.heap.size, 0, none⟩) 0 0) = some b -> w4.heap.size <= b := fun b e => (own1.lt b e).1
     have hB2 : Below w4.heap.size w4 v2 := hB1.trans ⟨gr2.os, gr2.tape, gr2.output, gr2.size, fun b hb => gr2.block b (by have := hB1.size; omega) (fun e => by have := ob2 b e.symm; omega)⟩;refine hK.out _ _ (fun hoff _ => KU.out _ hB2) ?_;clear hK;(try simp only [Act.put, setIfInBounds_toArray, set_cons_zero, set_cons_succ]);refine AnyX.go2 13 15 (by kernel_rfl) rfl rfl (by rfl) (by rfl) (fun K hK => ?_) (fun K hK => ?_)
     ·skip
      simp only [getElem_toArray, getElem_cons_succ, getElem_cons_zero];refine wp_append_src (.tmp 68) (.tmp 73) 23 rfl (w4.heap.size) 60 inf _ 10 152 Tryz.underlying23 hi1 hy0 hy1 hy2 (by rfl) (Nat.zero_lt_succ 9) V2 (k) (C.take k).flatten rfl own2 (some ⟨g, o, none⟩) 0 (_) (C.drop k1).flatten rfl (fun e => by cases e) hlDr1 (fun ad e j v hv => by rw [hD0] at hv; simp at hv) hoD (by unfold maxLen; omega) (by omega) (by have := hB2.size; omega) ?_;intro V3 v3 own3 gr3;have ob3 : ∀ b, Value.ownBlock V2 = some b -> w4.heap.size <= b := fun b e => (own2.lt b e).1
      have hB3 : Below w4.heap.size w4 v3 := hB2.trans ⟨gr3.os, gr3.tape, gr3.output, gr3.size, fun b hb => gr3.block b (by have := hB2.size; omega) (fun e => by have := ob3 b e.symm; omega)⟩;obtain ⟨A6, c6, rfl⟩ := own_slice own3;refine hK.out _ _ (fun hoff _ => KU.out _ hB3) ?_;clear hK;(try simp only [Act.put, setIfInBounds_toArray, set_cons_zero, set_cons_succ]);refine AnyX.mv (i := 14) (v := ?_) rfl (fun _ _ _ h => h) (Or.inl ⟨by rfl, ?_⟩) ?_;rotate_left
      ·(intro wS _; go_simp; try with_reducible rfl)
      simp only [getElem_toArray, getElem_cons_succ, getElem_cons_zero];simp only [Act.put, setIfInBounds_toArray, set_cons_zero, set_cons_succ];refine AnyX.go 15 (by kernel_rfl) rfl rfl (fun K hK => ?_);simp only [getElem_toArray, getElem_cons_succ, getElem_cons_zero];go_simp
      obtain ⟨v4, hv4⟩ : ∃ wa, wa = v3.alloc (.cells #[.slice none 0 0, .slice none 0 0] 25) := ⟨_, rfl⟩;have hB4 : Below w4.heap.size w4 v4 := by rw [hv4]; exact below_new hB3 _
      have X4 : v4.heap[v3.heap.size]? = some (.cells #[.slice none 0 0, .slice none 0 0] 25 (0, 0)) := by rw [hv4]; exact heap_alloc_new v3 _
      have sz4 : v3.heap.size + 1 <= v4.heap.size /\ v4.heap.size <= v3.heap.size + 1 := by rw [hv4]; simp
      have ge4 : w4.heap.size <= v3.heap.size := hB3.size;have own4 : v4.ownsRow (w4.heap.size) 60 10 (.slice A6 (k + 0) c6) (k + 0) ((C.take k).flatten ++ (C.drop k1).flatten) := by rw [hv4]; exact World.ownsRow.alloc own3 _
      have old4 : ∀ b, Value.ownBlock (.slice A6 (k + 0) c6) = some b -> b < v3.heap.size := fun b e => (own3.lt b e).2
      have lx4 : v3.heap.size < v4.heap.size := by omega
      have hHa4 := KU.out v4 hB4;rw [hv4] at hHa4;refine hK.out _ _ (fun hoff _ => hHa4) ?_;clear hK;(try simp only [Act.put, setIfInBounds_toArray, set_cons_zero, set_cons_succ]);rw [<- hv4];clear hHa4 hv4;refine AnyX.go 16 (by kernel_rfl) rfl rfl (fun K hK => ?_);simp only [getElem_toArray, getElem_cons_succ, getElem_cons_zero];refine wp_store_row 25 (.tmp 14) (.tmp 75) rfl (v3.heap.size) #[.slice Ai ni ci, .slice A6 (k + 0) c6] rfl rfl _ _ X4 usSize rfl usOne ?_;refine hK.out _ _ (fun hoff _ => absurd hoff (by decide)) ?_;clear hK;(try simp only [Act.put, setIfInBounds_toArray, set_cons_zero, set_cons_succ]);refine AnyX.done (by kernel_rfl) ?_ _;go_wp2_with fail
      go_meet
      rw [hz1];have hbW : w4.heap.size <= v3.heap.size := by omega
      have hbelow : Below w4.heap.size w4 (v4.setRow (v3.heap.size) #[.slice Ai ni ci, .slice A6 (k + 0) c6]) := setRow_below hB4 hbW _
      have ownZ : (v4.setRow (v3.heap.size) #[.slice Ai ni ci, .slice A6 (k + 0) c6]).ownsRow (w4.heap.size) 60 10 (.slice A6 (k + 0) c6) (k + 0) (C.take k ++ C.drop k1).flatten := by
       rw [List.flatten_append];exact own_block11 own4 (fun b' e => setRow_other _ _ _ _ (fun e2 => own_ne own4 X4 (by decide) (e2 ▸ e)))
      obtain ⟨hrow, hls⟩ := ROWL.out _ _ _ _ _ (by omega) hbelow ownZ;exact ⟨_, A6, c6, rfl, setRow_heap _ _ _ _ _ _ X4, ⟨Ai, ci, A6, c6, by rw [<- HNI.out, hls], by rw [<- HNI.out]; exact z2, by rw [hls]; omega, HI4.out.below hbelow, hrow⟩, CapU.of (u := ⟨u.imps, ls⟩) (by rw [<- HNI.out]; exact hci) (by rw [hls]; exact own_cap ownZ) HNI.out hls.symm, hbelow⟩
     ·skip
      simp only [getElem_toArray, getElem_cons_succ, getElem_cons_zero];go_simp
      obtain ⟨v5, hv5⟩ : ∃ wa, wa = v2.alloc (.cells #[.slice none 0 0, .slice none 0 0] 25) := ⟨_, rfl⟩;have hB5 : Below w4.heap.size w4 v5 := by rw [hv5]; exact below_new hB2 _
      have X5 : v5.heap[v2.heap.size]? = some (.cells #[.slice none 0 0, .slice none 0 0] 25 (0, 0)) := by rw [hv5]; exact heap_alloc_new v2 _
      have sz5 : v2.heap.size + 1 <= v5.heap.size /\ v5.heap.size <= v2.heap.size + 1 := by rw [hv5]; simp
      have ge5 : w4.heap.size <= v2.heap.size := hB2.size;have own5 : v5.ownsRow (w4.heap.size) 60 10 V2 (k) (C.take k).flatten := by rw [hv5]; exact World.ownsRow.alloc own2 _
      have old5 : ∀ b, Value.ownBlock V2 = some b -> b < v2.heap.size := fun b e => (own2.lt b e).2
      have lx5 : v2.heap.size < v5.heap.size := by omega
      have hHa5 := KU.out v5 hB5;rw [hv5] at hHa5;refine hK.out _ _ (fun hoff _ => hHa5) ?_;clear hK;(try simp only [Act.put, setIfInBounds_toArray, set_cons_zero, set_cons_succ]);rw [<- hv5];clear hHa5 hv5;refine AnyX.go 13 (by kernel_rfl) rfl rfl (fun K hK => ?_);simp only [getElem_toArray, getElem_cons_succ, getElem_cons_zero];refine wp_append_src (.tmp 68) (.tmp 73) 23 rfl (w4.heap.size) 60 inf _ 10 152 Tryz.underlying23 hi1 hy0 hy1 hy2 (by rfl) (Nat.zero_lt_succ 9) V2 (k) (C.take k).flatten rfl own5 (some ⟨g, o, none⟩) 0 (_) (C.drop k1).flatten rfl (fun e => by cases e) hlDr1 (fun ad e j v hv => by rw [hD0] at hv; simp at hv) hoD (by unfold maxLen; omega) (by omega) (by have := hB5.size; omega) ?_;intro V6 v6 own6 gr6;have ob6 : ∀ b, Value.ownBlock V2 = some b -> w4.heap.size <= b := fun b e => (own5.lt b e).1
      have hB6 : Below w4.heap.size w4 v6 := hB5.trans ⟨gr6.os, gr6.tape, gr6.output, gr6.size, fun b hb => gr6.block b (by have := hB5.size; omega) (fun e => by have := ob6 b e.symm; omega)⟩;obtain ⟨A6, c6, rfl⟩ := own_slice own6;have Y6 := (gr6.block v2.heap.size lx5 (fun e => absurd e.symm (fun e => own_ne own5 X5 (by decide) e))).trans X5;have lu6 := Nat.lt_of_lt_of_le lx5 gr6.size;refine hK.out _ _ (fun hoff _ => KU.out _ hB6) ?_;clear hK;(try simp only [Act.put, setIfInBounds_toArray, set_cons_zero, set_cons_succ]);refine AnyX.mv (i := 14) (v := ?_) rfl (fun _ _ _ h => h) (Or.inl ⟨by rfl, ?_⟩) ?_;rotate_left
      ·(intro wS _; go_simp; try with_reducible rfl)
      simp only [getElem_toArray, getElem_cons_succ, getElem_cons_zero];simp only [Act.put, setIfInBounds_toArray, set_cons_zero, set_cons_succ];refine AnyX.go 16 (by kernel_rfl) rfl rfl (fun K hK => ?_);simp only [getElem_toArray, getElem_cons_succ, getElem_cons_zero];refine wp_store_row 25 (.tmp 14) (.tmp 75) rfl (v2.heap.size) #[.slice Ai ni ci, .slice A6 (k + 0) c6] rfl rfl _ _ Y6 usSize rfl usOne ?_;refine hK.out _ _ (fun hoff _ => absurd hoff (by decide)) ?_;clear hK;(try simp only [Act.put, setIfInBounds_toArray, set_cons_zero, set_cons_succ]);refine AnyX.done (by kernel_rfl) ?_ _;go_wp2_with fail
      go_meet
      rw [hz1];have hbW : w4.heap.size <= v2.heap.size := by omega
      have hbelow : Below w4.heap.size w4 (v6.setRow (v2.heap.size) #[.slice Ai ni ci, .slice A6 (k + 0) c6]) := setRow_below hB6 hbW _
      have ownZ : (v6.setRow (v2.heap.size) #[.slice Ai ni ci, .slice A6 (k + 0) c6]).ownsRow (w4.heap.size) 60 10 (.slice A6 (k + 0) c6) (k + 0) (C.take k ++ C.drop k1).flatten := by
       rw [List.flatten_append];exact own_block11 own6 (fun b' e => setRow_other _ _ _ _ (fun e2 => own_ne own6 Y6 (by decide) (e2 ▸ e)))
      obtain ⟨hrow, hls⟩ := ROWL.out _ _ _ _ _ (by omega) hbelow ownZ;exact ⟨_, A6, c6, rfl, setRow_heap _ _ _ _ _ _ Y6, ⟨Ai, ci, A6, c6, by rw [<- HNI.out, hls], by rw [<- HNI.out]; exact z2, by rw [hls]; omega, HI4.out.below hbelow, hrow⟩, CapU.of (u := ⟨u.imps, ls⟩) (by rw [<- HNI.out]; exact hci) (by rw [hls]; exact own_cap ownZ) HNI.out hls.symm, hbelow⟩
    ·skip
     simp only [getElem_toArray, getElem_cons_succ, getElem_cons_zero];go_simp
     obtain ⟨v7, hv7⟩ : ∃ wa, wa = v1.alloc (.cells #[.slice none 0 0, .slice none 0 0] 25) := ⟨_, rfl⟩;have hB7 : Below w4.heap.size w4 v7 := by rw [hv7]; exact below_new hB1 _
     have X7 : v7.heap[v1.heap.size]? = some (.cells #[.slice none 0 0, .slice none 0 0] 25 (0, 0)) := by rw [hv7]; exact heap_alloc_new v1 _
     have sz7 : v1.heap.size + 1 <= v7.heap.size /\ v7.heap.size <= v1.heap.size + 1 := by rw [hv7]; simp
     have ge7 : w4.heap.size <= v1.heap.size := hB1.size;have own7 : v7.ownsRow (w4.heap.size) 60 10 (.slice (some ⟨w4.heap.size, 0, none⟩) 0 0) (0) [] := by rw [hv7]; exact World.ownsRow.alloc own1 _
     have old7 : ∀ b, Value.ownBlock (.slice (some ⟨w4.heap.size, 0, none⟩) 0 0) = some b -> b < v1.heap.size := fun b e => (own1.lt b e).2
     have lx7 : v1.heap.size < v7.heap.size := by omega
     have hHa7 := KU.out v7 hB7;rw [hv7] at hHa7;refine hK.out _ _ (fun hoff _ => hHa7) ?_;clear hK;(try simp only [Act.put, setIfInBounds_toArray, set_cons_zero, set_cons_succ]);rw [<- hv7];clear hHa7 hv7;refine AnyX.go 7 (by kernel_rfl) rfl rfl (fun K hK => ?_);simp only [getElem_toArray, getElem_cons_succ, getElem_cons_zero];refine wp_append_src (.tmp 63) (.tmp 67) 23 rfl (w4.heap.size) 60 inf _ 10 152 Tryz.underlying23 hi1 hy0 hy1 hy2 (by rfl) (Nat.zero_lt_succ 9) (.slice (some ⟨w4.heap.size, 0, none⟩) 0 0) (0) [] rfl own7 (some ⟨g, o, none⟩) (k) (_) (C.take k).flatten rfl (fun e => by cases e) hlT (fun ad e j v hv => by obtain rfl := Option.some.inj e; exact hcT _ hB7 j v hv) hoT (by unfold maxLen; omega) (by omega) (by have := hB7.size; omega) ?_;intro V8 v8 own8 gr8;rw [Nat.zero_add, List.nil_append] at own8;have ob8 : ∀ b, Value.ownBlock (.slice (some ⟨w4.heap.size, 0, none⟩) 0 0) = some b -> w4.heap.size <= b := fun b e => (own7.lt b e).1
     have hB8 : Below w4.heap.size w4 v8 := hB7.trans ⟨gr8.os, gr8.tape, gr8.output, gr8.size, fun b hb => gr8.block b (by have := hB7.size; omega) (fun e => by have := ob8 b e.symm; omega)⟩;have Y8 := (gr8.block v1.heap.size lx7 (fun e => absurd e.symm (fun e => own_ne own7 X7 (by decide) e))).trans X7;have lu8 := Nat.lt_of_lt_of_le lx7 gr8.size;refine hK.out _ _ (fun hoff _ => KU.out _ hB8) ?_;clear hK;(try simp only [Act.put, setIfInBounds_toArray, set_cons_zero, set_cons_succ]);refine AnyX.go 13 (by kernel_rfl) rfl rfl (fun K hK => ?_);simp only [getElem_toArray, getElem_cons_succ, getElem_cons_zero];refine wp_append_src (.tmp 68) (.tmp 73) 23 rfl (w4.heap.size) 60 inf _ 10 152 Tryz.underlying23 hi1 hy0 hy1 hy2 (by rfl) (Nat.zero_lt_succ 9) V8 (k) (C.take k).flatten rfl own8 (some ⟨g, o, none⟩) 0 (_) (C.drop k1).flatten rfl (fun e => by cases e) hlDr1 (fun ad e j v hv => by rw [hD0] at hv; simp at hv) hoD (by unfold maxLen; omega) (by omega) (by have := hB8.size; omega) ?_;intro V9 v9 own9 gr9;have ob9 : ∀ b, Value.ownBlock V8 = some b -> w4.heap.size <= b := fun b e => (own8.lt b e).1
     have hB9 : Below w4.heap.size w4 v9 := hB8.trans ⟨gr9.os, gr9.tape, gr9.output, gr9.size, fun b hb => gr9.block b (by have := hB8.size; omega) (fun e => by have := ob9 b e.symm; omega)⟩;obtain ⟨A6, c6, rfl⟩ := own_slice own9;have Y9 := (gr9.block v1.heap.size lu8 (fun e => absurd e.symm (fun e => own_ne own8 Y8 (by decide) e))).trans Y8;have lu9 := Nat.lt_of_lt_of_le lu8 gr9.size;refine hK.out _ _ (fun hoff _ => KU.out _ hB9) ?_;clear hK;(try simp only [Act.put, setIfInBounds_toArray, set_cons_zero, set_cons_succ]);refine AnyX.mv (i := 14) (v := ?_) rfl (fun _ _ _ h => h) (Or.inl ⟨by rfl, ?_⟩) ?_;rotate_left
     ·(intro wS _; go_simp; try with_reducible rfl)
     simp only [getElem_toArray, getElem_cons_succ, getElem_cons_zero];simp only [Act.put, setIfInBounds_toArray, set_cons_zero, set_cons_succ];refine AnyX.go 16 (by kernel_rfl) rfl rfl (fun K hK => ?_);simp only [getElem_toArray, getElem_cons_succ, getElem_cons_zero];refine wp_store_row 25 (.tmp 14) (.tmp 75) rfl (v1.heap.size) #[.slice Ai ni ci, .slice A6 (k + 0) c6] rfl rfl _ _ Y9 usSize rfl usOne ?_;refine hK.out _ _ (fun hoff _ => absurd hoff (by decide)) ?_;clear hK;(try simp only [Act.put, setIfInBounds_toArray, set_cons_zero, set_cons_succ]);refine AnyX.done (by kernel_rfl) ?_ _;go_wp2_with fail
     go_meet
     rw [hz1];have hbW : w4.heap.size <= v1.heap.size := by omega
     have hbelow : Below w4.heap.size w4 (v9.setRow (v1.heap.size) #[.slice Ai ni ci, .slice A6 (k + 0) c6]) := setRow_below hB9 hbW _
     have ownZ : (v9.setRow (v1.heap.size) #[.slice Ai ni ci, .slice A6 (k + 0) c6]).ownsRow (w4.heap.size) 60 10 (.slice A6 (k + 0) c6) (k + 0) (C.take k ++ C.drop k1).flatten := by
      rw [List.flatten_append];exact own_block11 own9 (fun b' e => setRow_other _ _ _ _ (fun e2 => own_ne own9 Y9 (by decide) (e2 ▸ e)))
     obtain ⟨hrow, hls⟩ := ROWL.out _ _ _ _ _ (by omega) hbelow ownZ;exact ⟨_, A6, c6, rfl, setRow_heap _ _ _ _ _ _ Y9, ⟨Ai, ci, A6, c6, by rw [<- HNI.out, hls], by rw [<- HNI.out]; exact z2, by rw [hls]; omega, HI4.out.below hbelow, hrow⟩, CapU.of (u := ⟨u.imps, ls⟩) (by rw [<- HNI.out]; exact hci) (by rw [hls]; exact own_cap ownZ) HNI.out hls.symm, hbelow⟩
   ·skip
    simp only [getElem_toArray, getElem_cons_succ, getElem_cons_zero];go_simp
    obtain ⟨v10, hv10⟩ : ∃ wa, wa = (w4.alloc (.cells #[.slice none 0 0, .slice none 0 0] 25)).drew := ⟨_, rfl⟩;have hB10 : Below w4.heap.size w4 v10 := by rw [hv10]; exact Below.drew (below_new (Below.refl _ _) _)
    have X10 : v10.heap[w4.heap.size]? = some (.cells #[.slice none 0 0, .slice none 0 0] 25 (0, 0)) := by rw [hv10]; exact heap_alloc_new w4 _
    have sz10 : w4.heap.size + 1 <= v10.heap.size /\ v10.heap.size <= w4.heap.size + 1 := by rw [hv10]; simp
    have ge10 : w4.heap.size <= w4.heap.size := Nat.le_refl _;have lx10 : w4.heap.size < v10.heap.size := by omega
    have hHa10 := KU.out v10 hB10;rw [hv10] at hHa10;refine hK.out _ _ (fun hoff _ => hHa10) ?_;clear hK;(try simp only [Act.put, setIfInBounds_toArray, set_cons_zero, set_cons_succ]);rw [<- hv10];clear hHa10 hv10;refine AnyX.go 2 (by kernel_rfl) rfl rfl (fun K hK => ?_);simp only [getElem_toArray, getElem_cons_succ, getElem_cons_zero];go_simp
    obtain ⟨v11, hv11⟩ : ∃ wa, wa = v10.alloc (.cells #[] 60) := ⟨_, rfl⟩;have hB11 : Below w4.heap.size w4 v11 := by rw [hv11]; exact below_new hB10 _
    have X11 : v11.heap[v10.heap.size]? = some (.cells #[] 60 (0, 0)) := by rw [hv11]; exact heap_alloc_new v10 _
    have sz11 : v10.heap.size + 1 <= v11.heap.size /\ v11.heap.size <= v10.heap.size + 1 := by rw [hv11]; simp
    have ge11 : w4.heap.size <= v10.heap.size := hB10.size;have own11 : v11.ownsRow v10.heap.size 60 10 (.slice (some ⟨v10.heap.size, 0, none⟩) 0 0) 0 [] := by rw [hv11]; exact World.ownsRow_lit (base := v10.heap.size) (e := 60) (size := 10) v10 #[] 0 (Nat.le_refl _) (by decide) rfl
    have Bx11 : Below v10.heap.size v10 v11 := by rw [hv11]; exact below_new (Below.refl _ _) _
    have Y11 := (Bx11.block _ lx10).trans X10;have lu11 : w4.heap.size < v11.heap.size := by omega
    have hHa11 := KU.out v11 hB11;rw [hv11] at hHa11;refine hK.out _ _ (fun hoff _ => hHa11) ?_;clear hK;(try simp only [Act.put, setIfInBounds_toArray, set_cons_zero, set_cons_succ]);rw [<- hv11];clear hHa11 hv11;refine AnyX.go 7 (by kernel_rfl) rfl rfl (fun K hK => ?_);simp only [getElem_toArray, getElem_cons_succ, getElem_cons_zero];refine wp_append_src (.tmp 63) (.tmp 67) 23 rfl (v10.heap.size) 60 inf _ 10 152 Tryz.underlying23 hi1 hy0 hy1 hy2 (by rfl) (Nat.zero_lt_succ 9) (.slice (some ⟨v10.heap.size, 0, none⟩) 0 0) (0) [] rfl own11 (some ⟨g, o, none⟩) (k) (_) (C.take k).flatten rfl (fun e => by cases e) hlT (fun ad e j v hv => by obtain rfl := Option.some.inj e; exact hcT _ hB11 j v hv) hoT (by unfold maxLen; omega) (by omega) (by have := hB11.size; omega) ?_;intro V12 v12 own12 gr12;rw [Nat.zero_add, List.nil_append] at own12;have ob12 : ∀ b, Value.ownBlock (.slice (some ⟨v10.heap.size, 0, none⟩) 0 0) = some b -> v10.heap.size <= b := fun b e => (own11.lt b e).1
    have hB12 : Below w4.heap.size w4 v12 := hB11.trans ⟨gr12.os, gr12.tape, gr12.output, gr12.size, fun b hb => gr12.block b (by have := hB11.size; omega) (fun e => by have := ob12 b e.symm; omega)⟩;have Y12 := (gr12.block w4.heap.size lu11 (fun e => absurd e.symm (fun e => own_ne own11 Y11 (by decide) e))).trans Y11;have lu12 := Nat.lt_of_lt_of_le lu11 gr12.size;refine hK.out _ _ (fun hoff _ => KU.out _ hB12) ?_;clear hK;(try simp only [Act.put, setIfInBounds_toArray, set_cons_zero, set_cons_succ]);refine AnyX.go 13 (by kernel_rfl) rfl rfl (fun K hK => ?_);simp only [getElem_toArray, getElem_cons_succ, getElem_cons_zero];refine wp_append_src (.tmp 68) (.tmp 73) 23 rfl (v10.heap.size) 60 inf _ 10 152 Tryz.underlying23 hi1 hy0 hy1 hy2 (by rfl) (Nat.zero_lt_succ 9) V12 (k) (C.take k).flatten rfl own12 (some ⟨g, o, none⟩) 0 (_) (C.drop k1).flatten rfl (fun e => by cases e) hlDr1 (fun ad e j v hv => by rw [hD0] at hv; simp at hv) hoD (by unfold maxLen; omega) (by omega) (by have := hB12.size; omega) ?_;intro V13 v13 own13 gr13;have ob13 : ∀ b, Value.ownBlock V12 = some b -> v10.heap.size <= b := fun b e => (own12.lt b e).1
    have hB13 : Below w4.heap.size w4 v13 := hB12.trans ⟨gr13.os, gr13.tape, gr13.output, gr13.size, fun b hb => gr13.block b (by have := hB12.size; omega) (fun e => by have := ob13 b e.symm; omega)⟩;obtain ⟨A6, c6, rfl⟩ := own_slice own13;have Y13 := (gr13.block w4.heap.size lu12 (fun e => absurd e.symm (fun e => own_ne own12 Y12 (by decide) e))).trans Y12;have lu13 := Nat.lt_of_lt_of_le lu12 gr13.size;refine hK.out _ _ (fun hoff _ => KU.out _ hB13) ?_;clear hK;(try simp only [Act.put, setIfInBounds_toArray, set_cons_zero, set_cons_succ]);refine AnyX.mv (i := 14) (v := ?_) rfl (fun _ _ _ h => h) (Or.inl ⟨by rfl, ?_⟩) ?_;rotate_left
    ·(intro wS _; go_simp; try with_reducible rfl)
    simp only [getElem_toArray, getElem_cons_succ, getElem_cons_zero];simp only [Act.put, setIfInBounds_toArray, set_cons_zero, set_cons_succ];refine AnyX.go 16 (by kernel_rfl) rfl rfl (fun K hK => ?_);simp only [getElem_toArray, getElem_cons_succ, getElem_cons_zero];refine wp_store_row 25 (.tmp 14) (.tmp 75) rfl (w4.heap.size) #[.slice Ai ni ci, .slice A6 (k + 0) c6] rfl rfl _ _ Y13 usSize rfl usOne ?_;refine hK.out _ _ (fun hoff _ => absurd hoff (by decide)) ?_;clear hK;(try simp only [Act.put, setIfInBounds_toArray, set_cons_zero, set_cons_succ]);refine AnyX.done (by kernel_rfl) ?_ _;go_wp2_with fail
    go_meet
    rw [hz1];have hbW : w4.heap.size <= w4.heap.size := by omega
    have hbelow : Below w4.heap.size w4 (v13.setRow (w4.heap.size) #[.slice Ai ni ci, .slice A6 (k + 0) c6]) := setRow_below hB13 hbW _
    have ownZ : (v13.setRow (w4.heap.size) #[.slice Ai ni ci, .slice A6 (k + 0) c6]).ownsRow (v10.heap.size) 60 10 (.slice A6 (k + 0) c6) (k + 0) (C.take k ++ C.drop k1).flatten := by
     rw [List.flatten_append];exact own_block11 own13 (fun b' e => setRow_other _ _ _ _ (fun e2 => own_ne own13 Y13 (by decide) (e2 ▸ e)))
    obtain ⟨hrow, hls⟩ := ROWL.out _ _ _ _ _ (by omega) hbelow ownZ;exact ⟨_, A6, c6, rfl, setRow_heap _ _ _ _ _ _ Y13, ⟨Ai, ci, A6, c6, by rw [<- HNI.out, hls], by rw [<- HNI.out]; exact z2, by rw [hls]; omega, HI4.out.below hbelow, hrow⟩, CapU.of (u := ⟨u.imps, ls⟩) (by rw [<- HNI.out]; exact hci) (by rw [hls]; exact own_cap ownZ) HNI.out hls.symm, hbelow⟩
  ·have hck' : ¬ k1 = cd := fun e => hck e.symm
   have hH0 := KU.out w4.drew (Below.drew (Below.refl _ _));refine AnyX.start (fun wx => wx.cell? ⟨w.heap.size, 0, none⟩ = some (.slice Ai ni ci) /\ wx.cell? ⟨w.heap.size, 1, none⟩ = some (.slice (some ⟨g, o, none⟩) nd cd)) (fun k => [14, 16].contains k) (by kernel_rfl) ?_;refine AnyX.mv (i := 0) (v := ?_) rfl (fun _ _ _ h => h) (Or.inl ⟨by rfl, ?_⟩) ?_;rotate_left
   ·(intro wS _; go_simp; try with_reducible rfl)
   simp only [getElem_toArray, getElem_cons_succ, getElem_cons_zero];simp only [Act.put, setIfInBounds_toArray, set_cons_zero, set_cons_succ];refine AnyX.tk (i := 1) (v := ?_) rfl (fun _ _ _ h => h) hH0 (Or.inl ⟨by rfl, ?_⟩) ?_;rotate_left
   ·(intro wS hS; (try obtain ⟨p0, p1⟩ := hS); go_simp; try with_reducible rfl)
   simp only [getElem_toArray, getElem_cons_succ, getElem_cons_zero];simp only [Act.put, setIfInBounds_toArray, set_cons_zero, set_cons_succ];refine AnyX.mv (i := 3) (v := ?_) rfl (fun _ _ _ h => h) (Or.inl ⟨by rfl, ?_⟩) ?_;rotate_left
   ·(intro wS _; go_simp; try with_reducible rfl)
   simp only [getElem_toArray, getElem_cons_succ, getElem_cons_zero];simp only [Act.put, setIfInBounds_toArray, set_cons_zero, set_cons_succ];refine AnyX.tk (i := 4) (v := ?_) rfl (fun _ _ _ h => h) hH0 (Or.inl ⟨by rfl, ?_⟩) ?_;rotate_left
   ·(intro wS hS; (try obtain ⟨p0, p1⟩ := hS); go_simp; try with_reducible rfl)
   simp only [getElem_toArray, getElem_cons_succ, getElem_cons_zero];simp only [Act.put, setIfInBounds_toArray, set_cons_zero, set_cons_succ];refine AnyX.mv (i := 5) (v := ?_) rfl (fun _ _ _ h => h) (Or.inl ⟨by rfl, ?_⟩) ?_;rotate_left
   ·(intro wS _; go_simp; try with_reducible rfl)
   simp only [getElem_toArray, getElem_cons_succ, getElem_cons_zero];simp only [Act.put, setIfInBounds_toArray, set_cons_zero, set_cons_succ];refine AnyX.mv (i := 6) (v := ?_) rfl (fun _ _ _ h => h) (Or.inl ⟨by rfl, ?_⟩) ?_;rotate_left
   ·(intro wS _; go_simp; try with_reducible rfl)
   simp only [getElem_toArray, getElem_cons_succ, getElem_cons_zero];simp only [Act.put, setIfInBounds_toArray, set_cons_zero, set_cons_succ];refine AnyX.mv (i := 8) (v := ?_) rfl (fun _ _ _ h => h) (Or.inl ⟨by rfl, ?_⟩) ?_;rotate_left
   ·(intro wS _; go_simp; try with_reducible rfl)
   simp only [getElem_toArray, getElem_cons_succ, getElem_cons_zero];simp only [Act.put, setIfInBounds_toArray, set_cons_zero, set_cons_succ];refine AnyX.tk (i := 9) (v := ?_) rfl (fun _ _ _ h => h) hH0 (Or.inl ⟨by rfl, ?_⟩) ?_;rotate_left
   ·(intro wS hS; (try obtain ⟨p0, p1⟩ := hS); go_simp; try with_reducible rfl)
   simp only [getElem_toArray, getElem_cons_succ, getElem_cons_zero];simp only [Act.put, setIfInBounds_toArray, set_cons_zero, set_cons_succ];refine AnyX.mv (i := 10) (v := ?_) rfl (fun _ _ _ h => h) (Or.inl ⟨by rfl, ?_⟩) ?_;rotate_left
   ·(intro wS _; go_simp; try with_reducible rfl)
   simp only [getElem_toArray, getElem_cons_succ, getElem_cons_zero];simp only [Act.put, setIfInBounds_toArray, set_cons_zero, set_cons_succ];refine AnyX.mv (i := 11) (v := ?_) rfl (fun _ _ _ h => h) (Or.inl ⟨by rfl, ?_⟩) ?_;rotate_left
   ·(intro wS _; go_simp; try with_reducible rfl)
   simp only [getElem_toArray, getElem_cons_succ, getElem_cons_zero];simp only [Act.put, setIfInBounds_toArray, set_cons_zero, set_cons_succ];refine AnyX.mv (i := 12) (v := ?_) rfl (fun _ _ _ h => h) (Or.inl ⟨by rfl, ?_⟩) ?_;rotate_left
   ·(intro wS _; go_simp; try with_reducible rfl)
   simp only [getElem_toArray, getElem_cons_succ, getElem_cons_zero];simp only [Act.put, setIfInBounds_toArray, set_cons_zero, set_cons_succ];clear hH0;obtain ⟨inf, hi1, hy0, hy1, hy2⟩ := info_parts ln_info;refine AnyX.go2 2 15 (by kernel_rfl) rfl rfl (by rfl) (by rfl) (fun K hK => ?_) (fun K hK => ?_)
   ·skip
    simp only [getElem_toArray, getElem_cons_succ, getElem_cons_zero];go_simp
    obtain ⟨v1, hv1⟩ : ∃ wa, wa = (w4.alloc (.cells #[] 60)).drew := ⟨_, rfl⟩;have hB1 : Below w4.heap.size w4 v1 := by rw [hv1]; exact Below.drew (below_new (Below.refl _ _) _)
    have X1 : v1.heap[w4.heap.size]? = some (.cells #[] 60 (0, 0)) := by rw [hv1]; exact heap_alloc_new w4 _
    have sz1 : w4.heap.size + 1 <= v1.heap.size /\ v1.heap.size <= w4.heap.size + 1 := by rw [hv1]; simp
    have ge1 : w4.heap.size <= w4.heap.size := Nat.le_refl _;have own1 : v1.ownsRow w4.heap.size 60 10 (.slice (some ⟨w4.heap.size, 0, none⟩) 0 0) 0 [] := by rw [hv1]; exact World.ownsRow_lit (base := w4.heap.size) (e := 60) (size := 10) w4 #[] 0 (Nat.le_refl _) (by decide) rfl
    have hHa1 := KU.out v1 hB1;rw [hv1] at hHa1;refine hK.out _ _ (fun hoff _ => hHa1) ?_;clear hK;(try simp only [Act.put, setIfInBounds_toArray, set_cons_zero, set_cons_succ]);rw [<- hv1];clear hHa1 hv1;refine AnyX.go2 7 15 (by kernel_rfl) rfl rfl (by rfl) (by rfl) (fun K hK => ?_) (fun K hK => ?_)
    ·skip
     simp only [getElem_toArray, getElem_cons_succ, getElem_cons_zero];refine wp_append_src (.tmp 63) (.tmp 67) 23 rfl (w4.heap.size) 60 inf _ 10 152 Tryz.underlying23 hi1 hy0 hy1 hy2 (by rfl) (Nat.zero_lt_succ 9) (.slice (some ⟨w4.heap.size, 0, none⟩) 0 0) (0) [] rfl own1 (some ⟨g, o, none⟩) (k) (_) (C.take k).flatten rfl (fun e => by cases e) hlT (fun ad e j v hv => by obtain rfl := Option.some.inj e; exact hcT _ hB1 j v hv) hoT (by unfold maxLen; omega) (by omega) (by have := hB1.size; omega) ?_;intro V2 v2 own2 gr2;rw [Nat.zero_add, List.nil_append] at own2;have ob2 : ∀ b, Value.ownBlock (.slice (some ⟨w4.heap.size, 0, none⟩) 0 0) = some b -> w4.heap.size <= b := fun b e => (own1.lt b e).1
     have hB2 : Below w4.heap.size w4 v2 := hB1.trans ⟨gr2.os, gr2.tape, gr2.output, gr2.size, fun b hb => gr2.block b (by have := hB1.size; omega) (fun e => by have := ob2 b e.symm; omega)⟩;refine hK.out _ _ (fun hoff _ => KU.out _ hB2) ?_;clear hK;(try simp only [Act.put, setIfInBounds_toArray, set_cons_zero, set_cons_succ]);refine AnyX.go2 13 15 (by kernel_rfl) rfl rfl (by rfl) (by rfl) (fun K hK => ?_) (fun K hK => ?_)
     ·skip
      simp only [getElem_toArray, getElem_cons_succ, getElem_cons_zero];refine wp_append_src (.tmp 68) (.tmp 73) 23 rfl (w4.heap.size) 60 inf _ 10 152 Tryz.underlying23 hi1 hy0 hy1 hy2 (by rfl) (Nat.zero_lt_succ 9) V2 (k) (C.take k).flatten rfl own2 (some ⟨g, o + k1 * 10, none⟩) (nd - k1) (_) (C.drop k1).flatten rfl (fun e => by cases e) hlDr (fun ad e j v hv => by obtain rfl := Option.some.inj e; exact hcD _ hB2 j v hv) hoD (by unfold maxLen; omega) (by omega) (by have := hB2.size; omega) ?_;intro V3 v3 own3 gr3;have ob3 : ∀ b, Value.ownBlock V2 = some b -> w4.heap.size <= b := fun b e => (own2.lt b e).1
      have hB3 : Below w4.heap.size w4 v3 := hB2.trans ⟨gr3.os, gr3.tape, gr3.output, gr3.size, fun b hb => gr3.block b (by have := hB2.size; omega) (fun e => by have := ob3 b e.symm; omega)⟩;obtain ⟨A6, c6, rfl⟩ := own_slice own3;refine hK.out _ _ (fun hoff _ => KU.out _ hB3) ?_;clear hK;(try simp only [Act.put, setIfInBounds_toArray, set_cons_zero, set_cons_succ]);refine AnyX.mv (i := 14) (v := ?_) rfl (fun _ _ _ h => h) (Or.inl ⟨by rfl, ?_⟩) ?_;rotate_left
      ·(intro wS _; go_simp; try with_reducible rfl)
      simp only [getElem_toArray, getElem_cons_succ, getElem_cons_zero];simp only [Act.put, setIfInBounds_toArray, set_cons_zero, set_cons_succ];refine AnyX.go 15 (by kernel_rfl) rfl rfl (fun K hK => ?_);simp only [getElem_toArray, getElem_cons_succ, getElem_cons_zero];go_simp
      obtain ⟨v4, hv4⟩ : ∃ wa, wa = v3.alloc (.cells #[.slice none 0 0, .slice none 0 0] 25) := ⟨_, rfl⟩;have hB4 : Below w4.heap.size w4 v4 := by rw [hv4]; exact below_new hB3 _
      have X4 : v4.heap[v3.heap.size]? = some (.cells #[.slice none 0 0, .slice none 0 0] 25 (0, 0)) := by rw [hv4]; exact heap_alloc_new v3 _
      have sz4 : v3.heap.size + 1 <= v4.heap.size /\ v4.heap.size <= v3.heap.size + 1 := by rw [hv4]; simp
      have ge4 : w4.heap.size <= v3.heap.size := hB3.size;have own4 : v4.ownsRow (w4.heap.size) 60 10 (.slice A6 (k + (nd - k1)) c6) (k + (nd - k1)) ((C.take k).flatten ++ (C.drop k1).flatten) := by rw [hv4]; exact World.ownsRow.alloc own3 _
      have old4 : ∀ b, Value.ownBlock (.slice A6 (k + (nd - k1)) c6) = some b -> b < v3.heap.size := fun b e => (own3.lt b e).2
      have lx4 : v3.heap.size < v4.heap.size := by omega
      have hHa4 := KU.out v4 hB4;rw [hv4] at hHa4;refine hK.out _ _ (fun hoff _ => hHa4) ?_;clear hK;(try simp only [Act.put, setIfInBounds_toArray, set_cons_zero, set_cons_succ]);rw [<- hv4];clear hHa4 hv4;refine AnyX.go 16 (by kernel_rfl) rfl rfl (fun K hK => ?_);simp only [getElem_toArray, getElem_cons_succ, getElem_cons_zero];refine wp_store_row 25 (.tmp 14) (.tmp 75) rfl (v3.heap.size) #[.slice Ai ni ci, .slice A6 (k + (nd - k1)) c6] rfl rfl _ _ X4 usSize rfl usOne ?_;refine hK.out _ _ (fun hoff _ => absurd hoff (by decide)) ?_;clear hK;(try simp only [Act.put, setIfInBounds_toArray, set_cons_zero, set_cons_succ]);refine AnyX.done (by kernel_rfl) ?_ _;go_wp2_with fail
      go_meet
      have hbW : w4.heap.size <= v3.heap.size := by omega
      have hbelow : Below w4.heap.size w4 (v4.setRow (v3.heap.size) #[.slice Ai ni ci, .slice A6 (k + (nd - k1)) c6]) := setRow_below hB4 hbW _
      have ownZ : (v4.setRow (v3.heap.size) #[.slice Ai ni ci, .slice A6 (k + (nd - k1)) c6]).ownsRow (w4.heap.size) 60 10 (.slice A6 (k + (nd - k1)) c6) (k + (nd - k1)) (C.take k ++ C.drop k1).flatten := by
       rw [List.flatten_append];exact own_block11 own4 (fun b' e => setRow_other _ _ _ _ (fun e2 => own_ne own4 X4 (by decide) (e2 ▸ e)))
      obtain ⟨hrow, hls⟩ := ROWL.out _ _ _ _ _ (by omega) hbelow ownZ;exact ⟨_, A6, c6, rfl, setRow_heap _ _ _ _ _ _ X4, ⟨Ai, ci, A6, c6, by rw [<- HNI.out, hls], by rw [<- HNI.out]; exact z2, by rw [hls]; omega, HI4.out.below hbelow, hrow⟩, CapU.of (u := ⟨u.imps, ls⟩) (by rw [<- HNI.out]; exact hci) (by rw [hls]; exact own_cap ownZ) HNI.out hls.symm, hbelow⟩
     ·skip
      simp only [getElem_toArray, getElem_cons_succ, getElem_cons_zero];go_simp
      obtain ⟨v5, hv5⟩ : ∃ wa, wa = v2.alloc (.cells #[.slice none 0 0, .slice none 0 0] 25) := ⟨_, rfl⟩;have hB5 : Below w4.heap.size w4 v5 := by rw [hv5]; exact below_new hB2 _
      have X5 : v5.heap[v2.heap.size]? = some (.cells #[.slice none 0 0, .slice none 0 0] 25 (0, 0)) := by rw [hv5]; exact heap_alloc_new v2 _
      have sz5 : v2.heap.size + 1 <= v5.heap.size /\ v5.heap.size <= v2.heap.size + 1 := by rw [hv5]; simp
      have ge5 : w4.heap.size <= v2.heap.size := hB2.size;have own5 : v5.ownsRow (w4.heap.size) 60 10 V2 (k) (C.take k).flatten := by rw [hv5]; exact World.ownsRow.alloc own2 _
      have old5 : ∀ b, Value.ownBlock V2 = some b -> b < v2.heap.size := fun b e => (own2.lt b e).2
      have lx5 : v2.heap.size < v5.heap.size := by omega
      have hHa5 := KU.out v5 hB5;rw [hv5] at hHa5;refine hK.out _ _ (fun hoff _ => hHa5) ?_;clear hK;(try simp only [Act.put, setIfInBounds_toArray, set_cons_zero, set_cons_succ]);rw [<- hv5];clear hHa5 hv5;refine AnyX.go 13 (by kernel_rfl) rfl rfl (fun K hK => ?_);simp only [getElem_toArray, getElem_cons_succ, getElem_cons_zero];refine wp_append_src (.tmp 68) (.tmp 73) 23 rfl (w4.heap.size) 60 inf _ 10 152 Tryz.underlying23 hi1 hy0 hy1 hy2 (by rfl) (Nat.zero_lt_succ 9) V2 (k) (C.take k).flatten rfl own5 (some ⟨g, o + k1 * 10, none⟩) (nd - k1) (_) (C.drop k1).flatten rfl (fun e => by cases e) hlDr (fun ad e j v hv => by obtain rfl := Option.some.inj e; exact hcD _ hB5 j v hv) hoD (by unfold maxLen; omega) (by omega) (by have := hB5.size; omega) ?_;intro V6 v6 own6 gr6;have ob6 : ∀ b, Value.ownBlock V2 = some b -> w4.heap.size <= b := fun b e => (own5.lt b e).1
      have hB6 : Below w4.heap.size w4 v6 := hB5.trans ⟨gr6.os, gr6.tape, gr6.output, gr6.size, fun b hb => gr6.block b (by have := hB5.size; omega) (fun e => by have := ob6 b e.symm; omega)⟩;obtain ⟨A6, c6, rfl⟩ := own_slice own6;have Y6 := (gr6.block v2.heap.size lx5 (fun e => absurd e.symm (fun e => own_ne own5 X5 (by decide) e))).trans X5;have lu6 := Nat.lt_of_lt_of_le lx5 gr6.size;refine hK.out _ _ (fun hoff _ => KU.out _ hB6) ?_;clear hK;(try simp only [Act.put, setIfInBounds_toArray, set_cons_zero, set_cons_succ]);refine AnyX.mv (i := 14) (v := ?_) rfl (fun _ _ _ h => h) (Or.inl ⟨by rfl, ?_⟩) ?_;rotate_left
      ·(intro wS _; go_simp; try with_reducible rfl)
      simp only [getElem_toArray, getElem_cons_succ, getElem_cons_zero];simp only [Act.put, setIfInBounds_toArray, set_cons_zero, set_cons_succ];refine AnyX.go 16 (by kernel_rfl) rfl rfl (fun K hK => ?_);simp only [getElem_toArray, getElem_cons_succ, getElem_cons_zero];refine wp_store_row 25 (.tmp 14) (.tmp 75) rfl (v2.heap.size) #[.slice Ai ni ci, .slice A6 (k + (nd - k1)) c6] rfl rfl _ _ Y6 usSize rfl usOne ?_;refine hK.out _ _ (fun hoff _ => absurd hoff (by decide)) ?_;clear hK;(try simp only [Act.put, setIfInBounds_toArray, set_cons_zero, set_cons_succ]);refine AnyX.done (by kernel_rfl) ?_ _;go_wp2_with fail
      go_meet
      have hbW : w4.heap.size <= v2.heap.size := by omega
      have hbelow : Below w4.heap.size w4 (v6.setRow (v2.heap.size) #[.slice Ai ni ci, .slice A6 (k + (nd - k1)) c6]) := setRow_below hB6 hbW _
      have ownZ : (v6.setRow (v2.heap.size) #[.slice Ai ni ci, .slice A6 (k + (nd - k1)) c6]).ownsRow (w4.heap.size) 60 10 (.slice A6 (k + (nd - k1)) c6) (k + (nd - k1)) (C.take k ++ C.drop k1).flatten := by
       rw [List.flatten_append];exact own_block11 own6 (fun b' e => setRow_other _ _ _ _ (fun e2 => own_ne own6 Y6 (by decide) (e2 ▸ e)))
      obtain ⟨hrow, hls⟩ := ROWL.out _ _ _ _ _ (by omega) hbelow ownZ;exact ⟨_, A6, c6, rfl, setRow_heap _ _ _ _ _ _ Y6, ⟨Ai, ci, A6, c6, by rw [<- HNI.out, hls], by rw [<- HNI.out]; exact z2, by rw [hls]; omega, HI4.out.below hbelow, hrow⟩, CapU.of (u := ⟨u.imps, ls⟩) (by rw [<- HNI.out]; exact hci) (by rw [hls]; exact own_cap ownZ) HNI.out hls.symm, hbelow⟩
    ·skip
     simp only [getElem_toArray, getElem_cons_succ, getElem_cons_zero];go_simp
     obtain ⟨v7, hv7⟩ : ∃ wa, wa = v1.alloc (.cells #[.slice none 0 0, .slice none 0 0] 25) := ⟨_, rfl⟩;have hB7 : Below w4.heap.size w4 v7 := by rw [hv7]; exact below_new hB1 _
     have X7 : v7.heap[v1.heap.size]? = some (.cells #[.slice none 0 0, .slice none 0 0] 25 (0, 0)) := by rw [hv7]; exact heap_alloc_new v1 _
     have sz7 : v1.heap.size + 1 <= v7.heap.size /\ v7.heap.size <= v1.heap.size + 1 := by rw [hv7]; simp
     have ge7 : w4.heap.size <= v1.heap.size := hB1.size;have own7 : v7.ownsRow (w4.heap.size) 60 10 (.slice (some ⟨w4.heap.size, 0, none⟩) 0 0) (0) [] := by rw [hv7]; exact World.ownsRow.alloc own1 _
     have old7 : ∀ b, Value.ownBlock (.slice (some ⟨w4.heap.size, 0, none⟩) 0 0) = some b -> b < v1.heap.size := fun b e => (own1.lt b e).2
     have lx7 : v1.heap.size < v7.heap.size := by omega
     have hHa7 := KU.out v7 hB7;rw [hv7] at hHa7;refine hK.out _ _ (fun hoff _ => hHa7) ?_;clear hK;(try simp only [Act.put, setIfInBounds_toArray, set_cons_zero, set_cons_succ]);rw [<- hv7];clear hHa7 hv7;refine AnyX.go 7 (by kernel_rfl) rfl rfl (fun K hK => ?_);simp only [getElem_toArray, getElem_cons_succ, getElem_cons_zero];refine wp_append_src (.tmp 63) (.tmp 67) 23 rfl (w4.heap.size) 60 inf _ 10 152 Tryz.underlying23 hi1 hy0 hy1 hy2 (by rfl) (Nat.zero_lt_succ 9) (.slice (some ⟨w4.heap.size, 0, none⟩) 0 0) (0) [] rfl own7 (some ⟨g, o, none⟩) (k) (_) (C.take k).flatten rfl (fun e => by cases e) hlT (fun ad e j v hv => by obtain rfl := Option.some.inj e; exact hcT _ hB7 j v hv) hoT (by unfold maxLen; omega) (by omega) (by have := hB7.size; omega) ?_;intro V8 v8 own8 gr8;rw [Nat.zero_add, List.nil_append] at own8;have ob8 : ∀ b, Value.ownBlock (.slice (some ⟨w4.heap.size, 0, none⟩) 0 0) = some b -> w4.heap.size <= b := fun b e => (own7.lt b e).1
     have hB8 : Below w4.heap.size w4 v8 := hB7.trans ⟨gr8.os, gr8.tape, gr8.output, gr8.size, fun b hb => gr8.block b (by have := hB7.size; omega) (fun e => by have := ob8 b e.symm; omega)⟩;have Y8 := (gr8.block v1.heap.size lx7 (fun e => absurd e.symm (fun e => own_ne own7 X7 (by decide) e))).trans X7;have lu8 := Nat.lt_of_lt_of_le lx7 gr8.size;refine hK.out _ _ (fun hoff _ => KU.out _ hB8) ?_;clear hK;(try simp only [Act.put, setIfInBounds_toArray, set_cons_zero, set_cons_succ]);refine AnyX.go 13 (by kernel_rfl) rfl rfl (fun K hK => ?_);simp only [getElem_toArray, getElem_cons_succ, getElem_cons_zero];refine wp_append_src (.tmp 68) (.tmp 73) 23 rfl (w4.heap.size) 60 inf _ 10 152 Tryz.underlying23 hi1 hy0 hy1 hy2 (by rfl) (Nat.zero_lt_succ 9) V8 (k) (C.take k).flatten rfl own8 (some ⟨g, o + k1 * 10, none⟩) (nd - k1) (_) (C.drop k1).flatten rfl (fun e => by cases e) hlDr (fun ad e j v hv => by obtain rfl := Option.some.inj e; exact hcD _ hB8 j v hv) hoD (by unfold maxLen; omega) (by omega) (by have := hB8.size; omega) ?_;intro V9 v9 own9 gr9;have ob9 : ∀ b, Value.ownBlock V8 = some b -> w4.heap.size <= b := fun b e => (own8.lt b e).1
     have hB9 : Below w4.heap.size w4 v9 := hB8.trans ⟨gr9.os, gr9.tape, gr9.output, gr9.size, fun b hb => gr9.block b (by have := hB8.size; omega) (fun e => by have := ob9 b e.symm; omega)⟩;obtain ⟨A6, c6, rfl⟩ := own_slice own9;have Y9 := (gr9.block v1.heap.size lu8 (fun e => absurd e.symm (fun e => own_ne own8 Y8 (by decide) e))).trans Y8;have lu9 := Nat.lt_of_lt_of_le lu8 gr9.size;refine hK.out _ _ (fun hoff _ => KU.out _ hB9) ?_;clear hK;(try simp only [Act.put, setIfInBounds_toArray, set_cons_zero, set_cons_succ]);refine AnyX.mv (i := 14) (v := ?_) rfl (fun _ _ _ h => h) (Or.inl ⟨by rfl, ?_⟩) ?_;rotate_left
     ·(intro wS _; go_simp; try with_reducible rfl)
     simp only [getElem_toArray, getElem_cons_succ, getElem_cons_zero];simp only [Act.put, setIfInBounds_toArray, set_cons_zero, set_cons_succ];refine AnyX.go 16 (by kernel_rfl) rfl rfl (fun K hK => ?_);simp only [getElem_toArray, getElem_cons_succ, getElem_cons_zero];refine wp_store_row 25 (.tmp 14) (.tmp 75) rfl (v1.heap.size) #[.slice Ai ni ci, .slice A6 (k + (nd - k1)) c6] rfl rfl _ _ Y9 usSize rfl usOne ?_;refine hK.out _ _ (fun hoff _ => absurd hoff (by decide)) ?_;clear hK;(try simp only [Act.put, setIfInBounds_toArray, set_cons_zero, set_cons_succ]);refine AnyX.done (by kernel_rfl) ?_ _;go_wp2_with fail
     go_meet
     have hbW : w4.heap.size <= v1.heap.size := by omega
     have hbelow : Below w4.heap.size w4 (v9.setRow (v1.heap.size) #[.slice Ai ni ci, .slice A6 (k + (nd - k1)) c6]) := setRow_below hB9 hbW _
     have ownZ : (v9.setRow (v1.heap.size) #[.slice Ai ni ci, .slice A6 (k + (nd - k1)) c6]).ownsRow (w4.heap.size) 60 10 (.slice A6 (k + (nd - k1)) c6) (k + (nd - k1)) (C.take k ++ C.drop k1).flatten := by
      rw [List.flatten_append];exact own_block11 own9 (fun b' e => setRow_other _ _ _ _ (fun e2 => own_ne own9 Y9 (by decide) (e2 ▸ e)))
     obtain ⟨hrow, hls⟩ := ROWL.out _ _ _ _ _ (by omega) hbelow ownZ;exact ⟨_, A6, c6, rfl, setRow_heap _ _ _ _ _ _ Y9, ⟨Ai, ci, A6, c6, by rw [<- HNI.out, hls], by rw [<- HNI.out]; exact z2, by rw [hls]; omega, HI4.out.below hbelow, hrow⟩, CapU.of (u := ⟨u.imps, ls⟩) (by rw [<- HNI.out]; exact hci) (by rw [hls]; exact own_cap ownZ) HNI.out hls.symm, hbelow⟩
   ·skip
    simp only [getElem_toArray, getElem_cons_succ, getElem_cons_zero];go_simp
    obtain ⟨v10, hv10⟩ : ∃ wa, wa = (w4.alloc (.cells #[.slice none 0 0, .slice none 0 0] 25)).drew := ⟨_, rfl⟩;have hB10 : Below w4.heap.size w4 v10 := by rw [hv10]; exact Below.drew (below_new (Below.refl _ _) _)
    have X10 : v10.heap[w4.heap.size]? = some (.cells #[.slice none 0 0, .slice none 0 0] 25 (0, 0)) := by rw [hv10]; exact heap_alloc_new w4 _
    have sz10 : w4.heap.size + 1 <= v10.heap.size /\ v10.heap.size <= w4.heap.size + 1 := by rw [hv10]; simp
    have ge10 : w4.heap.size <= w4.heap.size := Nat.le_refl _;have lx10 : w4.heap.size < v10.heap.size := by omega
    have hHa10 := KU.out v10 hB10;rw [hv10] at hHa10;refine hK.out _ _ (fun hoff _ => hHa10) ?_;clear hK;(try simp only [Act.put, setIfInBounds_toArray, set_cons_zero, set_cons_succ]);rw [<- hv10];clear hHa10 hv10;refine AnyX.go 2 (by kernel_rfl) rfl rfl (fun K hK => ?_);simp only [getElem_toArray, getElem_cons_succ, getElem_cons_zero];go_simp
    obtain ⟨v11, hv11⟩ : ∃ wa, wa = v10.alloc (.cells #[] 60) := ⟨_, rfl⟩;have hB11 : Below w4.heap.size w4 v11 := by rw [hv11]; exact below_new hB10 _
    have X11 : v11.heap[v10.heap.size]? = some (.cells #[] 60 (0, 0)) := by rw [hv11]; exact heap_alloc_new v10 _
    have sz11 : v10.heap.size + 1 <= v11.heap.size /\ v11.heap.size <= v10.heap.size + 1 := by rw [hv11]; simp
    have ge11 : w4.heap.size <= v10.heap.size := hB10.size;have own11 : v11.ownsRow v10.heap.size 60 10 (.slice (some ⟨v10.heap.size, 0, none⟩) 0 0) 0 [] := by rw [hv11]; exact World.ownsRow_lit (base := v10.heap.size) (e := 60) (size := 10) v10 #[] 0 (Nat.le_refl _) (by decide) rfl
    have Bx11 : Below v10.heap.size v10 v11 := by rw [hv11]; exact below_new (Below.refl _ _) _
    have Y11 := (Bx11.block _ lx10).trans X10;have lu11 : w4.heap.size < v11.heap.size := by omega
    have hHa11 := KU.out v11 hB11;rw [hv11] at hHa11;refine hK.out _ _ (fun hoff _ => hHa11) ?_;clear hK;(try simp only [Act.put, setIfInBounds_toArray, set_cons_zero, set_cons_succ]);rw [<- hv11];clear hHa11 hv11;refine AnyX.go 7 (by kernel_rfl) rfl rfl (fun K hK => ?_);simp only [getElem_toArray, getElem_cons_succ, getElem_cons_zero];refine wp_append_src (.tmp 63) (.tmp 67) 23 rfl (v10.heap.size) 60 inf _ 10 152 Tryz.underlying23 hi1 hy0 hy1 hy2 (by rfl) (Nat.zero_lt_succ 9) (.slice (some ⟨v10.heap.size, 0, none⟩) 0 0) (0) [] rfl own11 (some ⟨g, o, none⟩) (k) (_) (C.take k).flatten rfl (fun e => by cases e) hlT (fun ad e j v hv => by obtain rfl := Option.some.inj e; exact hcT _ hB11 j v hv) hoT (by unfold maxLen; omega) (by omega) (by have := hB11.size; omega) ?_;intro V12 v12 own12 gr12;rw [Nat.zero_add, List.nil_append] at own12;have ob12 : ∀ b, Value.ownBlock (.slice (some ⟨v10.heap.size, 0, none⟩) 0 0) = some b -> v10.heap.size <= b := fun b e => (own11.lt b e).1
    have hB12 : Below w4.heap.size w4 v12 := hB11.trans ⟨gr12.os, gr12.tape, gr12.output, gr12.size, fun b hb => gr12.block b (by have := hB11.size; omega) (fun e => by have := ob12 b e.symm; omega)⟩;have Y12 := (gr12.block w4.heap.size lu11 (fun e => absurd e.symm (fun e => own_ne own11 Y11 (by decide) e))).trans Y11;have lu12 := Nat.lt_of_lt_of_le lu11 gr12.size;refine hK.out _ _ (fun hoff _ => KU.out _ hB12) ?_;clear hK;(try simp only [Act.put, setIfInBounds_toArray, set_cons_zero, set_cons_succ]);refine AnyX.go 13 (by kernel_rfl) rfl rfl (fun K hK => ?_);simp only [getElem_toArray, getElem_cons_succ, getElem_cons_zero];refine wp_append_src (.tmp 68) (.tmp 73) 23 rfl (v10.heap.size) 60 inf _ 10 152 Tryz.underlying23 hi1 hy0 hy1 hy2 (by rfl) (Nat.zero_lt_succ 9) V12 (k) (C.take k).flatten rfl own12 (some ⟨g, o + k1 * 10, none⟩) (nd - k1) (_) (C.drop k1).flatten rfl (fun e => by cases e) hlDr (fun ad e j v hv => by obtain rfl := Option.some.inj e; exact hcD _ hB12 j v hv) hoD (by unfold maxLen; omega) (by omega) (by have := hB12.size; omega) ?_;intro V13 v13 own13 gr13;have ob13 : ∀ b, Value.ownBlock V12 = some b -> v10.heap.size <= b := fun b e => (own12.lt b e).1
    have hB13 : Below w4.heap.size w4 v13 := hB12.trans ⟨gr13.os, gr13.tape, gr13.output, gr13.size, fun b hb => gr13.block b (by have := hB12.size; omega) (fun e => by have := ob13 b e.symm; omega)⟩;obtain ⟨A6, c6, rfl⟩ := own_slice own13;have Y13 := (gr13.block w4.heap.size lu12 (fun e => absurd e.symm (fun e => own_ne own12 Y12 (by decide) e))).trans Y12;have lu13 := Nat.lt_of_lt_of_le lu12 gr13.size;refine hK.out _ _ (fun hoff _ => KU.out _ hB13) ?_;clear hK;(try simp only [Act.put, setIfInBounds_toArray, set_cons_zero, set_cons_succ]);refine AnyX.mv (i := 14) (v := ?_) rfl (fun _ _ _ h => h) (Or.inl ⟨by rfl, ?_⟩) ?_;rotate_left
    ·(intro wS _; go_simp; try with_reducible rfl)
    simp only [getElem_toArray, getElem_cons_succ, getElem_cons_zero];simp only [Act.put, setIfInBounds_toArray, set_cons_zero, set_cons_succ];refine AnyX.go 16 (by kernel_rfl) rfl rfl (fun K hK => ?_);simp only [getElem_toArray, getElem_cons_succ, getElem_cons_zero];refine wp_store_row 25 (.tmp 14) (.tmp 75) rfl (w4.heap.size) #[.slice Ai ni ci, .slice A6 (k + (nd - k1)) c6] rfl rfl _ _ Y13 usSize rfl usOne ?_;refine hK.out _ _ (fun hoff _ => absurd hoff (by decide)) ?_;clear hK;(try simp only [Act.put, setIfInBounds_toArray, set_cons_zero, set_cons_succ]);refine AnyX.done (by kernel_rfl) ?_ _;go_wp2_with fail
    go_meet
    have hbW : w4.heap.size <= w4.heap.size := by omega
    have hbelow : Below w4.heap.size w4 (v13.setRow (w4.heap.size) #[.slice Ai ni ci, .slice A6 (k + (nd - k1)) c6]) := setRow_below hB13 hbW _
    have ownZ : (v13.setRow (w4.heap.size) #[.slice Ai ni ci, .slice A6 (k + (nd - k1)) c6]).ownsRow (v10.heap.size) 60 10 (.slice A6 (k + (nd - k1)) c6) (k + (nd - k1)) (C.take k ++ C.drop k1).flatten := by
     rw [List.flatten_append];exact own_block11 own13 (fun b' e => setRow_other _ _ _ _ (fun e2 => own_ne own13 Y13 (by decide) (e2 ▸ e)))
    obtain ⟨hrow, hls⟩ := ROWL.out _ _ _ _ _ (by omega) hbelow ownZ;exact ⟨_, A6, c6, rfl, setRow_heap _ _ _ _ _ _ Y13, ⟨Ai, ci, A6, c6, by rw [<- HNI.out, hls], by rw [<- HNI.out]; exact z2, by rw [hls]; omega, HI4.out.below hbelow, hrow⟩, CapU.of (u := ⟨u.imps, ls⟩) (by rw [<- HNI.out]; exact hci) (by rw [hls]; exact own_cap ownZ) HNI.out hls.symm, hbelow⟩
 case rest =>
 obtain ⟨b, A', c', rfl, hbx, hus, hcu, hbc⟩ := hcut
 obtain ⟨w5, rfl⟩ : ∃ w5 : World, w5 = wc := ⟨_, rfl⟩
 have HB5 := hZ (below_over HB4.out hbc)
 have CK0 := ccheck11_any ⟨u.imps, ls⟩ env [.slice Ai ni ci, .slice A' (k + (nd - k1)) c'] Ae ce w5 hus hcu (HEV.out w5 HB5.out) (by rw [<- HNE.out]; omega)
 rw [<- HNE.out] at CK0
 have CK := hZ CK0
 obtain ⟨b0, b1⟩ := cq2 hbx
 simp at b0 b1
 clear CK0 hbx hus hcu hbc KU
 go_wp2_with (first | fail)
 refine CK.out.mono ?_; rintro e w6 ⟨c2, a2, v, hk2, rfl, hev, hb6⟩
 have HB6 := hZ (below_over HB5.out hb6)
 obtain rfl : v = .nilIface := by
  have h0 : c2 = 0 := (hk2.one (less_lines HK.out (by rw [HLS.out]; exact cut_sub _ _))).1;rcases evU_nil hev with ⟨-, h⟩ | ⟨h, -⟩
  ·exact h
  ·exact absurd h0 h
 clear hk2 hev hb6 CK b0 b1
 have CQ : Hid (∀ (A' : Option Addr) (c' : Nat) (wx : World), Below W2.heap.size W2 wx -> RowIn ifR wx A' (env ++ [x]) -> Calls Tryz.prog 20 #[.agg #[.slice Ai ni ci, .slice (some ⟨g, o, none⟩) nd cd], .slice A' (ne + 1) c'] wx fun e w' => e = .returned .nilIface /\ Below wx.heap.size wx w') := hZ (fun A' c' wx hb hr => by
  have h := ccheck11_any u (env ++ [x]) [.slice Ai ni ci, .slice (some ⟨g, o, none⟩) nd cd] A' c' wx (HUV.out wx hb) HCV.out hr (by rw [List.length_append, <- HNE.out]; simp; omega);rw [List.length_append, <- HNE.out] at h;refine h.mono ?_;rintro e w' ⟨c3, a3, v, hk3, rfl, hev3, hb3⟩;have h0 : c3 = 0 := (hk3.one (more_iface HK.out (by rw [<- HNE.out]; exact hn99))).1;rcases evU_nil hev3 with ⟨-, h⟩ | ⟨h, -⟩
  ·exact ⟨by rw [h], hb3⟩
  ·exact absurd h0 h)
 have KY : Hid (∀ wx : World, Below w6.heap.size w6 wx -> (wx.cell? ⟨w.heap.size, 0, none⟩ = some (.slice Ai ni ci) /\ wx.cell? ⟨w.heap.size, 1, none⟩ = some (.slice (some ⟨g, o, none⟩) nd cd)) /\ wx.cell? ⟨w.heap.size + 1, 0, none⟩ = some (.string x.pkg) /\ wx.cell? ⟨w.heap.size + 1, 1, none⟩ = some (.int .i64 x.major) /\ wx.cell? ⟨w.heap.size + 1, 2, none⟩ = some (.string x.mod) /\ wx.cell? ⟨w.heap.size + 1, 3, none⟩ = some (.slice At x.types.length ct) /\ wx.cell? ⟨w.heap.size + 1, 4, none⟩ = some (.slice Av x.vals.length cv)) := hZ (fun wx hb => by
  have X := HUX.out wx (below_over HB6.out hb);have Y := HXX.out wx (below_over HB6.out hb);exact ⟨⟨cZ X 0, cZ X 1⟩, cZ Y 0, cZ Y 1, cZ Y 2, cZ Y 3, cZ Y 4⟩)
 go_upto_region 14 with fail
 go_cut [16] (fun s16 wx => s16 = .nilIface /\ Below w6.heap.size w6 wx)
 case first =>
  have hH0 := KY.out w6.drew (Below.drew (Below.refl _ _));refine AnyX.start (fun wx => (wx.cell? ⟨w.heap.size, 0, none⟩ = some (.slice Ai ni ci) /\ wx.cell? ⟨w.heap.size, 1, none⟩ = some (.slice (some ⟨g, o, none⟩) nd cd)) /\ wx.cell? ⟨w.heap.size + 1, 0, none⟩ = some (.string x.pkg) /\ wx.cell? ⟨w.heap.size + 1, 1, none⟩ = some (.int .i64 x.major) /\ wx.cell? ⟨w.heap.size + 1, 2, none⟩ = some (.string x.mod) /\ wx.cell? ⟨w.heap.size + 1, 3, none⟩ = some (.slice At x.types.length ct) /\ wx.cell? ⟨w.heap.size + 1, 4, none⟩ = some (.slice Av x.vals.length cv)) (fun k => decide (7 <= k)) (by kernel_rfl) ?_;refine AnyX.tk (i := 0) (v := ?_) rfl (fun _ _ _ h => h) hH0 (Or.inl ⟨by rfl, ?_⟩) ?_;rotate_left
  ·(intro wS hS; (try obtain ⟨⟨q0, q1⟩, p0, p1, p2, p3, p4⟩ := hS); go_simp; try with_reducible rfl)
  simp only [getElem_toArray, getElem_cons_succ, getElem_cons_zero];simp only [Act.put, setIfInBounds_toArray, set_cons_zero, set_cons_succ];refine AnyX.mv (i := 2) (v := ?_) rfl (fun _ _ _ h => h) (Or.inl ⟨by rfl, ?_⟩) ?_;rotate_left
  ·(intro wS _; go_simp; try with_reducible rfl)
  simp only [getElem_toArray, getElem_cons_succ, getElem_cons_zero];simp only [Act.put, setIfInBounds_toArray, set_cons_zero, set_cons_succ];refine AnyX.tk (i := 4) (v := ?_) rfl (fun _ _ _ h => h) hH0 (Or.inl ⟨by rfl, ?_⟩) ?_;rotate_left
  ·(intro wS hS; (try obtain ⟨⟨q0, q1⟩, p0, p1, p2, p3, p4⟩ := hS); go_simp; try with_reducible rfl)
  simp only [getElem_toArray, getElem_cons_succ, getElem_cons_zero];simp only [Act.put, setIfInBounds_toArray, set_cons_zero, set_cons_succ];clear hH0;obtain ⟨inf, hi1, hy0, hy1, hy2⟩ := info_parts if_info11;have hxW := HIV.out w6 HB6.out;obtain ⟨C, hCl, hC5, hCE, hCA, hCS⟩ := (HEV.out w6 HB6.out).src (by decide);have hlC : C.flatten.length = ne * 5 := by rw [flatC_len C hC5, hCl, <- HNE.out]; rfl
  have hone := all_one_cells hCl hCE (fun y z h => if_one h);refine AnyX.go2 1 5 (by kernel_rfl) rfl rfl (by rfl) (by rfl) (fun K hK => ?_) (fun K hK => ?_)
  ·skip
   simp only [getElem_toArray, getElem_cons_succ, getElem_cons_zero];go_simp
   obtain ⟨v1, hv1⟩ : ∃ wa, wa = (w6.alloc (.cells #[] 50)).drew := ⟨_, rfl⟩;have hB1 : Below w6.heap.size w6 v1 := by rw [hv1]; exact Below.drew (below_new (Below.refl _ _) _)
   have X1 : v1.heap[w6.heap.size]? = some (.cells #[] 50 (0, 0)) := by rw [hv1]; exact heap_alloc_new w6 _
   have sz1 : w6.heap.size + 1 <= v1.heap.size /\ v1.heap.size <= w6.heap.size + 1 := by rw [hv1]; simp
   have ge1 : w6.heap.size <= w6.heap.size := Nat.le_refl _;have own1 : v1.ownsRow w6.heap.size 50 5 (.slice (some ⟨w6.heap.size, 0, none⟩) 0 0) 0 [] := by rw [hv1]; exact World.ownsRow_lit (base := w6.heap.size) (e := 50) (size := 5) w6 #[] 0 (Nat.le_refl _) (by decide) rfl
   have hHa1 := KY.out v1 hB1;rw [hv1] at hHa1;refine hK.out _ _ (fun hoff _ => hHa1) ?_;clear hK;(try simp only [Act.put, setIfInBounds_toArray, set_cons_zero, set_cons_succ]);rw [<- hv1];clear hHa1 hv1;refine AnyX.go2 3 5 (by kernel_rfl) rfl rfl (by rfl) (by rfl) (fun K hK => ?_) (fun K hK => ?_)
   ·skip
    simp only [getElem_toArray, getElem_cons_succ, getElem_cons_zero];refine wp_append_src (.tmp 80) (.tmp 81) 41 rfl (w6.heap.size) 50 inf _ 5 88 Tryz.underlying41 hi1 hy0 hy1 hy2 (by rfl) (Nat.zero_lt_succ 4) (.slice (some ⟨w6.heap.size, 0, none⟩) 0 0) (0) [] rfl own1 Ae (ne) (ce) C.flatten rfl (fun e => by have := hCA e; have := HNE.out; omega) hlC (hCS _ hB1) hone (by unfold maxLen; omega) (by omega) (by have := hB1.size; omega) ?_;intro V2 v2 own2 gr2;rw [Nat.zero_add, List.nil_append] at own2;have ob2 : ∀ b, Value.ownBlock (.slice (some ⟨w6.heap.size, 0, none⟩) 0 0) = some b -> w6.heap.size <= b := fun b e => (own1.lt b e).1
    have hB2 : Below w6.heap.size w6 v2 := hB1.trans ⟨gr2.os, gr2.tape, gr2.output, gr2.size, fun b hb => gr2.block b (by have := hB1.size; omega) (fun e => by have := ob2 b e.symm; omega)⟩;refine hK.out _ _ (fun hoff _ => KY.out _ hB2) ?_;clear hK;(try simp only [Act.put, setIfInBounds_toArray, set_cons_zero, set_cons_succ]);refine AnyX.go 5 (by kernel_rfl) rfl rfl (fun K hK => ?_);simp only [getElem_toArray, getElem_cons_succ, getElem_cons_zero];go_simp
    obtain ⟨v3, hv3⟩ : ∃ wa, wa = v2.alloc (.cells #[.string x.pkg, .int .i64 x.major, .string x.mod, .slice At x.types.length ct, .slice Av x.vals.length cv] 50) := ⟨_, rfl⟩;have hB3 : Below w6.heap.size w6 v3 := by rw [hv3]; exact below_new hB2 _
    have X3 : v3.heap[v2.heap.size]? = some (.cells #[.string x.pkg, .int .i64 x.major, .string x.mod, .slice At x.types.length ct, .slice Av x.vals.length cv] 50 (0, 0)) := by rw [hv3]; exact heap_alloc_new v2 _
    have sz3 : v2.heap.size + 1 <= v3.heap.size /\ v3.heap.size <= v2.heap.size + 1 := by rw [hv3]; simp
    have ge3 : w6.heap.size <= v2.heap.size := hB2.size;have own3 : v3.ownsRow (w6.heap.size) 50 5 V2 (ne) C.flatten := by rw [hv3]; exact World.ownsRow.alloc own2 _
    have old3 : ∀ b, Value.ownBlock V2 = some b -> b < v2.heap.size := fun b e => (own2.lt b e).2
    have lx3 : v2.heap.size < v3.heap.size := by omega
    have hHa3 := KY.out v3 hB3;rw [hv3] at hHa3;refine hK.out _ _ (fun hoff _ => hHa3) ?_;clear hK;(try simp only [Act.put, setIfInBounds_toArray, set_cons_zero, set_cons_succ]);rw [<- hv3];clear hHa3 hv3;refine AnyX.go 6 (by kernel_rfl) rfl rfl (fun K hK => ?_);simp only [getElem_toArray, getElem_cons_succ, getElem_cons_zero];refine wp_append_own _ (.tmp 82) (.tmp 84) 41 rfl (w6.heap.size) 50 inf _ 5 88 Tryz.underlying41 hi1 hy0 hy1 hy2 (by rfl) (Nat.zero_lt_succ 4) V2 ne C.flatten rfl own3 ⟨v2.heap.size, 0, none⟩ 1 1 [.string x.pkg, .int .i64 x.major, .string x.mod, .slice At x.types.length ct, .slice Av x.vals.length cv] rfl rfl (fun j v hv => by rw [WideShapes.add_plain, Nat.zero_add, cZ X3, <- hv, <- List.getElem?_toArray]) (if_one hxW) (by unfold maxLen; omega) (by omega) (by have := hB3.size; omega) ?_;intro V6 w6' own6 gr6 at6;have ob6 : ∀ b, Value.ownBlock V2 = some b -> w6.heap.size <= b := fun b e => (own3.lt b e).1
    have hB6 : Below w6.heap.size w6 w6' := hB3.trans ⟨gr6.os, gr6.tape, gr6.output, gr6.size, fun b hb => gr6.block b (by have := hB3.size; omega) (fun e => by have := ob6 b e.symm; omega)⟩;obtain ⟨A6, c6, rfl⟩ := own_slice own6;have hrow : RowIn ifR w6' A6 (env ++ [x]) := env_row HNE.out own6 hCl hC5 hCE hxW hB6;refine hK.out _ _ (fun hoff _ => KY.out _ hB6) ?_;clear hK;(try simp only [Act.put, setIfInBounds_toArray, set_cons_zero, set_cons_succ]);refine AnyX.go 7 (by kernel_rfl) rfl rfl (fun K hK => ?_);simp only [getElem_toArray, getElem_cons_succ, getElem_cons_zero];go_simp
    refine (CQ.out A6 c6 w6' (below_over HB6.out hB6) hrow).mono ?_; rintro e w7 ⟨rfl, hb7⟩
    simp only [];refine hK.out _ _ (fun hoff _ => absurd hoff (by decide)) ?_;clear hK;(try simp only [Act.put, setIfInBounds_toArray, set_cons_zero, set_cons_succ]);refine AnyX.mv (i := 8) (v := ?_) rfl (fun _ _ _ h => h) (Or.inl ⟨by rfl, ?_⟩) ?_;rotate_left
    ·(intro wS _; go_simp; try with_reducible rfl)
    simp only [getElem_toArray, getElem_cons_succ, getElem_cons_zero];simp only [Act.put, setIfInBounds_toArray, set_cons_zero, set_cons_succ];refine AnyX.done (by kernel_rfl) ?_ _;go_wp2_with fail
    go_meet
    exact ⟨rfl, below_over hB6 hb7⟩
   ·skip
    simp only [getElem_toArray, getElem_cons_succ, getElem_cons_zero];go_simp
    obtain ⟨v4, hv4⟩ : ∃ wa, wa = v1.alloc (.cells #[.string x.pkg, .int .i64 x.major, .string x.mod, .slice At x.types.length ct, .slice Av x.vals.length cv] 50) := ⟨_, rfl⟩;have hB4 : Below w6.heap.size w6 v4 := by rw [hv4]; exact below_new hB1 _
    have X4 : v4.heap[v1.heap.size]? = some (.cells #[.string x.pkg, .int .i64 x.major, .string x.mod, .slice At x.types.length ct, .slice Av x.vals.length cv] 50 (0, 0)) := by rw [hv4]; exact heap_alloc_new v1 _
    have sz4 : v1.heap.size + 1 <= v4.heap.size /\ v4.heap.size <= v1.heap.size + 1 := by rw [hv4]; simp
    have ge4 : w6.heap.size <= v1.heap.size := hB1.size;have own4 : v4.ownsRow (w6.heap.size) 50 5 (.slice (some ⟨w6.heap.size, 0, none⟩) 0 0) (0) [] := by rw [hv4]; exact World.ownsRow.alloc own1 _
    have old4 : ∀ b, Value.ownBlock (.slice (some ⟨w6.heap.size, 0, none⟩) 0 0) = some b -> b < v1.heap.size := fun b e => (own1.lt b e).2
    have lx4 : v1.heap.size < v4.heap.size := by omega
    have hHa4 := KY.out v4 hB4;rw [hv4] at hHa4;refine hK.out _ _ (fun hoff _ => hHa4) ?_;clear hK;(try simp only [Act.put, setIfInBounds_toArray, set_cons_zero, set_cons_succ]);rw [<- hv4];clear hHa4 hv4;refine AnyX.go 3 (by kernel_rfl) rfl rfl (fun K hK => ?_);simp only [getElem_toArray, getElem_cons_succ, getElem_cons_zero];refine wp_append_src (.tmp 80) (.tmp 81) 41 rfl (w6.heap.size) 50 inf _ 5 88 Tryz.underlying41 hi1 hy0 hy1 hy2 (by rfl) (Nat.zero_lt_succ 4) (.slice (some ⟨w6.heap.size, 0, none⟩) 0 0) (0) [] rfl own4 Ae (ne) (ce) C.flatten rfl (fun e => by have := hCA e; have := HNE.out; omega) hlC (hCS _ hB4) hone (by unfold maxLen; omega) (by omega) (by have := hB4.size; omega) ?_;intro V5 v5 own5 gr5;rw [Nat.zero_add, List.nil_append] at own5;have ob5 : ∀ b, Value.ownBlock (.slice (some ⟨w6.heap.size, 0, none⟩) 0 0) = some b -> w6.heap.size <= b := fun b e => (own4.lt b e).1
    have hB5 : Below w6.heap.size w6 v5 := hB4.trans ⟨gr5.os, gr5.tape, gr5.output, gr5.size, fun b hb => gr5.block b (by have := hB4.size; omega) (fun e => by have := ob5 b e.symm; omega)⟩;have Y5 := (gr5.block v1.heap.size lx4 (fun e => absurd e.symm (fun e => Nat.lt_irrefl _ (old4 _ e)))).trans X4;have lu5 := Nat.lt_of_lt_of_le lx4 gr5.size;refine hK.out _ _ (fun hoff _ => KY.out _ hB5) ?_;clear hK;(try simp only [Act.put, setIfInBounds_toArray, set_cons_zero, set_cons_succ]);refine AnyX.go 6 (by kernel_rfl) rfl rfl (fun K hK => ?_);simp only [getElem_toArray, getElem_cons_succ, getElem_cons_zero];refine wp_append_own _ (.tmp 82) (.tmp 84) 41 rfl (w6.heap.size) 50 inf _ 5 88 Tryz.underlying41 hi1 hy0 hy1 hy2 (by rfl) (Nat.zero_lt_succ 4) V5 ne C.flatten rfl own5 ⟨v1.heap.size, 0, none⟩ 1 1 [.string x.pkg, .int .i64 x.major, .string x.mod, .slice At x.types.length ct, .slice Av x.vals.length cv] rfl rfl (fun j v hv => by rw [WideShapes.add_plain, Nat.zero_add, cZ Y5, <- hv, <- List.getElem?_toArray]) (if_one hxW) (by unfold maxLen; omega) (by omega) (by have := hB5.size; omega) ?_;intro V6 w6' own6 gr6 at6;have ob6 : ∀ b, Value.ownBlock V5 = some b -> w6.heap.size <= b := fun b e => (own5.lt b e).1
    have hB6 : Below w6.heap.size w6 w6' := hB5.trans ⟨gr6.os, gr6.tape, gr6.output, gr6.size, fun b hb => gr6.block b (by have := hB5.size; omega) (fun e => by have := ob6 b e.symm; omega)⟩;obtain ⟨A6, c6, rfl⟩ := own_slice own6;have hrow : RowIn ifR w6' A6 (env ++ [x]) := env_row HNE.out own6 hCl hC5 hCE hxW hB6;refine hK.out _ _ (fun hoff _ => KY.out _ hB6) ?_;clear hK;(try simp only [Act.put, setIfInBounds_toArray, set_cons_zero, set_cons_succ]);refine AnyX.go 7 (by kernel_rfl) rfl rfl (fun K hK => ?_);simp only [getElem_toArray, getElem_cons_succ, getElem_cons_zero];go_simp
    refine (CQ.out A6 c6 w6' (below_over HB6.out hB6) hrow).mono ?_; rintro e w7 ⟨rfl, hb7⟩
    simp only [];refine hK.out _ _ (fun hoff _ => absurd hoff (by decide)) ?_;clear hK;(try simp only [Act.put, setIfInBounds_toArray, set_cons_zero, set_cons_succ]);refine AnyX.mv (i := 8) (v := ?_) rfl (fun _ _ _ h => h) (Or.inl ⟨by rfl, ?_⟩) ?_;rotate_left
    ·(intro wS _; go_simp; try with_reducible rfl)
    simp only [getElem_toArray, getElem_cons_succ, getElem_cons_zero];simp only [Act.put, setIfInBounds_toArray, set_cons_zero, set_cons_succ];refine AnyX.done (by kernel_rfl) ?_ _;go_wp2_with fail
    go_meet
    exact ⟨rfl, below_over hB6 hb7⟩
  ·skip
   simp only [getElem_toArray, getElem_cons_succ, getElem_cons_zero];go_simp
   obtain ⟨v6, hv6⟩ : ∃ wa, wa = (w6.alloc (.cells #[.string x.pkg, .int .i64 x.major, .string x.mod, .slice At x.types.length ct, .slice Av x.vals.length cv] 50)).drew := ⟨_, rfl⟩;have hB6 : Below w6.heap.size w6 v6 := by rw [hv6]; exact Below.drew (below_new (Below.refl _ _) _)
   have X6 : v6.heap[w6.heap.size]? = some (.cells #[.string x.pkg, .int .i64 x.major, .string x.mod, .slice At x.types.length ct, .slice Av x.vals.length cv] 50 (0, 0)) := by rw [hv6]; exact heap_alloc_new w6 _
   have sz6 : w6.heap.size + 1 <= v6.heap.size /\ v6.heap.size <= w6.heap.size + 1 := by rw [hv6]; simp
   have ge6 : w6.heap.size <= w6.heap.size := Nat.le_refl _;have lx6 : w6.heap.size < v6.heap.size := by omega
   have hHa6 := KY.out v6 hB6;rw [hv6] at hHa6;refine hK.out _ _ (fun hoff _ => hHa6) ?_;clear hK;(try simp only [Act.put, setIfInBounds_toArray, set_cons_zero, set_cons_succ]);rw [<- hv6];clear hHa6 hv6;refine AnyX.go 1 (by kernel_rfl) rfl rfl (fun K hK => ?_);simp only [getElem_toArray, getElem_cons_succ, getElem_cons_zero];go_simp
   obtain ⟨v7, hv7⟩ : ∃ wa, wa = v6.alloc (.cells #[] 50) := ⟨_, rfl⟩;have hB7 : Below w6.heap.size w6 v7 := by rw [hv7]; exact below_new hB6 _
   have X7 : v7.heap[v6.heap.size]? = some (.cells #[] 50 (0, 0)) := by rw [hv7]; exact heap_alloc_new v6 _
   have sz7 : v6.heap.size + 1 <= v7.heap.size /\ v7.heap.size <= v6.heap.size + 1 := by rw [hv7]; simp
   have ge7 : w6.heap.size <= v6.heap.size := hB6.size;have own7 : v7.ownsRow v6.heap.size 50 5 (.slice (some ⟨v6.heap.size, 0, none⟩) 0 0) 0 [] := by rw [hv7]; exact World.ownsRow_lit (base := v6.heap.size) (e := 50) (size := 5) v6 #[] 0 (Nat.le_refl _) (by decide) rfl
   have Bx7 : Below v6.heap.size v6 v7 := by rw [hv7]; exact below_new (Below.refl _ _) _
   have Y7 := (Bx7.block _ lx6).trans X6;have lu7 : w6.heap.size < v7.heap.size := by omega
   have hHa7 := KY.out v7 hB7;rw [hv7] at hHa7;refine hK.out _ _ (fun hoff _ => hHa7) ?_;clear hK;(try simp only [Act.put, setIfInBounds_toArray, set_cons_zero, set_cons_succ]);rw [<- hv7];clear hHa7 hv7;refine AnyX.go 3 (by kernel_rfl) rfl rfl (fun K hK => ?_);simp only [getElem_toArray, getElem_cons_succ, getElem_cons_zero];refine wp_append_src (.tmp 80) (.tmp 81) 41 rfl (v6.heap.size) 50 inf _ 5 88 Tryz.underlying41 hi1 hy0 hy1 hy2 (by rfl) (Nat.zero_lt_succ 4) (.slice (some ⟨v6.heap.size, 0, none⟩) 0 0) (0) [] rfl own7 Ae (ne) (ce) C.flatten rfl (fun e => by have := hCA e; have := HNE.out; omega) hlC (hCS _ hB7) hone (by unfold maxLen; omega) (by omega) (by have := hB7.size; omega) ?_;intro V8 v8 own8 gr8;rw [Nat.zero_add, List.nil_append] at own8;have ob8 : ∀ b, Value.ownBlock (.slice (some ⟨v6.heap.size, 0, none⟩) 0 0) = some b -> v6.heap.size <= b := fun b e => (own7.lt b e).1
   have hB8 : Below w6.heap.size w6 v8 := hB7.trans ⟨gr8.os, gr8.tape, gr8.output, gr8.size, fun b hb => gr8.block b (by have := hB7.size; omega) (fun e => by have := ob8 b e.symm; omega)⟩;have Y8 := (gr8.block w6.heap.size lu7 (fun e => absurd e.symm (fun e => by have := (own7.lt _ e).1; omega))).trans Y7;have lu8 := Nat.lt_of_lt_of_le lu7 gr8.size;refine hK.out _ _ (fun hoff _ => KY.out _ hB8) ?_;clear hK;(try simp only [Act.put, setIfInBounds_toArray, set_cons_zero, set_cons_succ]);refine AnyX.go 6 (by kernel_rfl) rfl rfl (fun K hK => ?_);simp only [getElem_toArray, getElem_cons_succ, getElem_cons_zero];refine wp_append_own _ (.tmp 82) (.tmp 84) 41 rfl (v6.heap.size) 50 inf _ 5 88 Tryz.underlying41 hi1 hy0 hy1 hy2 (by rfl) (Nat.zero_lt_succ 4) V8 ne C.flatten rfl own8 ⟨w6.heap.size, 0, none⟩ 1 1 [.string x.pkg, .int .i64 x.major, .string x.mod, .slice At x.types.length ct, .slice Av x.vals.length cv] rfl rfl (fun j v hv => by rw [WideShapes.add_plain, Nat.zero_add, cZ Y8, <- hv, <- List.getElem?_toArray]) (if_one hxW) (by unfold maxLen; omega) (by omega) (by have := hB8.size; omega) ?_;intro V6 w6' own6 gr6 at6;have ob6 : ∀ b, Value.ownBlock V8 = some b -> v6.heap.size <= b := fun b e => (own8.lt b e).1
   have hB6 : Below w6.heap.size w6 w6' := hB8.trans ⟨gr6.os, gr6.tape, gr6.output, gr6.size, fun b hb => gr6.block b (by have := hB8.size; omega) (fun e => by have := ob6 b e.symm; omega)⟩;obtain ⟨A6, c6, rfl⟩ := own_slice own6;have hrow : RowIn ifR w6' A6 (env ++ [x]) := env_row HNE.out own6 hCl hC5 hCE hxW hB6;refine hK.out _ _ (fun hoff _ => KY.out _ hB6) ?_;clear hK;(try simp only [Act.put, setIfInBounds_toArray, set_cons_zero, set_cons_succ]);refine AnyX.go 7 (by kernel_rfl) rfl rfl (fun K hK => ?_);simp only [getElem_toArray, getElem_cons_succ, getElem_cons_zero];go_simp
   refine (CQ.out A6 c6 w6' (below_over HB6.out hB6) hrow).mono ?_; rintro e w7 ⟨rfl, hb7⟩
   simp only [];refine hK.out _ _ (fun hoff _ => absurd hoff (by decide)) ?_;clear hK;(try simp only [Act.put, setIfInBounds_toArray, set_cons_zero, set_cons_succ]);refine AnyX.mv (i := 8) (v := ?_) rfl (fun _ _ _ h => h) (Or.inl ⟨by rfl, ?_⟩) ?_;rotate_left
   ·(intro wS _; go_simp; try with_reducible rfl)
   simp only [getElem_toArray, getElem_cons_succ, getElem_cons_zero];simp only [Act.put, setIfInBounds_toArray, set_cons_zero, set_cons_succ];refine AnyX.done (by kernel_rfl) ?_ _;go_wp2_with fail
   go_meet
   exact ⟨rfl, below_over hB6 hb7⟩
 case rest =>
 obtain ⟨rfl, hbc⟩ := hcut
 have FIN := hZ (below_over HB0.out (below_over HB6.out hbc))
 clear hbc
 go_wp2_with fail
 go_ret
 exact ⟨rfl, FIN.out⟩
end Go.Proofs.YteecgiebimdbhaaGreatDoor
