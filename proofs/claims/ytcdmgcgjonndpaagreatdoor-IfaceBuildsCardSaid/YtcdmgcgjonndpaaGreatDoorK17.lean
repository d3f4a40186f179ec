/-
  Several texts in one.
-/
import Derived.Test.YtcdmgcgjonndpaaGreatDoorK16
import Derived.DeepKeys3
open List (getElem_toArray getElem_cons_succ getElem_cons_zero set_cons_zero set_cons_succ setIfInBounds_toArray)
set_option maxRecDepth 100000
set_option maxHeartbeats 16000000
namespace Go.Proofs.YtcdmgcgjonndpaaGreatDoor
open Go Go.RowKit Go.Shelf
open Go.Sort Go.Maps
open M
def othM (m : Mo) (env : List If) (s n : ByteArray) : Ty × Int :=
 match impAt m s with
 | none => (zTy, 4)
 | some k => match m.imps[k]? with
  | none => (zTy, 4)
  | some x => if (mayT (gotT (gotI env x).types n) && plainT (gotT (gotI env x).types n)) = true then (gotT (gotI env x).types n, 0) else (zTy, 9)
theorem othM_no {m : Mo} {env : List If} {s n : ByteArray} (h : impAt m s = none) : othM m env s n = (zTy, 4) := by unfold othM; rw [h]
theorem othM_at {m : Mo} {env : List If} {s n : ByteArray} {k : Nat} {x : Im} (h : impAt m s = some k) (hx : m.imps[k]? = some x) : othM m env s n = if (mayT (gotT (gotI env x).types n) && plainT (gotT (gotI env x).types n)) = true then (gotT (gotI env x).types n, 0) else (zTy, 9) := by unfold othM; rw [h]; simp only []; rw [hx]
theorem impAt_idx (m : Mo) (s : ByteArray) : impAt m s = m.imps.findIdx? (isAs s) := rfl
theorem othersN_any (m : Mo) (pkg : ByteArray) (major : Int) (env : List If) (kb : Nat) (s nm : ByteArray) (l : List Value) (w0 w : World) (h : NsAt w0 l m pkg major env kb) (hw : Below w0.heap.size w0 w) :
  Calls Tryz.prog 153 #[.agg l.toArray, .agg #[.string s, .string nm]] w (MeOut w0 w (othM m env s nm).1 (othM m env s nm).2) := by
 have HB0w := hZ hw
 obtain ⟨Ai, ci, Ad, cd, Ae, ce, rfl, -, hz2, -, -, hz5, hI, -, hE⟩ := h
 obtain ⟨ni, hni⟩ : ∃ ni, ni = m.imps.length := ⟨_, rfl⟩
 obtain ⟨ne, hne⟩ : ∃ ne, ne = env.length := ⟨_, rfl⟩
 obtain ⟨W2, hW2, B2, O0, O1, hl2⟩ := two_boxes w #[.string m.name, .slice Ai ni ci, .slice Ad m.decs.length cd, .string pkg, .int .i64 major, .slice Ae ne ce, .map (some kb)] #[.string s, .string nm] 97 186
 have s2 : W2.heap.size = w.heap.size + 1 + 1 := by rw [hW2]; simp
 obtain ⟨W3, hW3⟩ : ∃ W3, W3 = W2.alloc (.cells #[.int .i64 0, .string ⟨#[]⟩, .int .i64 0, .string ⟨#[]⟩, .string ⟨#[]⟩, .slice none 0 0, .slice none 0 0, .int .i64 0] 140) := ⟨_, rfl⟩
 have B3 : Below W2.heap.size W2 W3 := by rw [hW3]; exact below_new (Below.refl _ _) _
 have s3 : W3.heap.size = w.heap.size + 1 + 1 + 1 := by rw [hW3]; simp [s2]
 have O2 : W3.heap[w.heap.size + 1 + 1]? = some (.cells #[.int .i64 0, .string ⟨#[]⟩, .int .i64 0, .string ⟨#[]⟩, .string ⟨#[]⟩, .slice none 0 0, .slice none 0 0, .int .i64 0] 140 (0, 0)) := by rw [hW3, <- s2]; exact heap_alloc_new W2 _
 have HB3 : Hid (Below w.heap.size w W3) := hZ (below_over B2 B3)
 have HM : Hid (∀ wx, Below W3.heap.size W3 wx -> wx.heap[w.heap.size]? = some (.cells #[.string m.name, .slice Ai ni ci, .slice Ad m.decs.length cd, .string pkg, .int .i64 major, .slice Ae ne ce, .map (some kb)] 97 (0, 0))) := hZ (fun wx hb => (hb.block _ (by omega)).trans ((B3.block _ (by omega)).trans O0))
 have HT : Hid (∀ wx, Below W3.heap.size W3 wx -> wx.heap[w.heap.size + 1]? = some (.cells #[.string s, .string nm] 186 (0, 0))) := hZ (fun wx hb => (hb.block _ (by omega)).trans ((B3.block _ (by omega)).trans O1))
 have HR : Hid (∀ wx, Below W3.heap.size W3 wx -> wx.heap[w.heap.size + 1 + 1]? = some (.cells #[.int .i64 0, .string ⟨#[]⟩, .int .i64 0, .string ⟨#[]⟩, .string ⟨#[]⟩, .slice none 0 0, .slice none 0 0, .int .i64 0] 140 (0, 0))) := hZ (fun wx hb => (hb.block _ (by omega)).trans O2)
 have HI0 := hZ hI
 have HI : Hid (∀ wx, Below W3.heap.size W3 wx -> RowIn imR wx Ai m.imps) := hZ (fun wx hb => hI.below (below_over HB0w.out (below_over HB3.out hb)))
 have HW : Hid (((w.alloc (.cells #[.string m.name, .slice Ai ni ci, .slice Ad m.decs.length cd, .string pkg, .int .i64 major, .slice Ae ne ce, .map (some kb)] 97)).alloc (.cells #[.string s, .string nm] 186)).alloc (.cells #[.int .i64 0, .string ⟨#[]⟩, .int .i64 0, .string ⟨#[]⟩, .string ⟨#[]⟩, .slice none 0 0, .slice none 0 0, .int .i64 0] 140) = W3) := hZ (by rw [hW3, hW2])
 have hbl : w.heap.size <= w.heap.size + 1 + 1 := by omega
 obtain ⟨J, hJ⟩ : ∃ J, J = optN (impAt m s) := ⟨_, rfl⟩
 have HJ := hZ hJ
 have IX := hZ (pAs_index Ai ci m.imps s nm (w.heap.size + 1) W3 (HI.out W3 (Below.refl _ _)) hz2 (HT.out W3 (Below.refl _ _)))
 rw [<- impAt_idx, <- hJ, <- hni] at IX
 have HNI := hZ hni
 have HNE := hZ hne
 have HFD := hZ (fun (x : Im) (wx : World) (hh : Below w0.heap.size w0 wx) => find8_any Ae ce env x w0 wx hE hh hz5)
 rw [<- hne] at HFD
 have x1 := cZ (HM.out W3 (Below.refl _ _)) 1
 simp at x1
 rw [<- hni] at hz2 ⊢
 rw [<- hne] at hz5 ⊢
 clear hI hE hw hW2 hW3 B2 B3 O0 O1 O2 s2 hl2 hJ hni hne
 go_enter Tryz.func153, Tryz.ntmps153
 go_upto_region 1 with fail
 rw [HW.out]
 clear HW
 go_wp2_with fail
 refine IX.out.mono ?_; rintro e w2 ⟨rfl, hb2⟩
 have HB2 := hZ hb2
 clear hb2 IX x1
 cases hk : impAt m s with
 | none =>
  obtain rfl : J = -1 := by rw [HJ.out, hk]; rfl
  have X5 := HR.out w2 HB2.out;have HX5 := hZ X5;have FIN : Hid (MeOut w0 w (othM m env s nm).1 (othM m env s nm).2 (.returned (.agg #[.int .i64 0, .string ⟨#[]⟩, .int .i64 0, .string ⟨#[]⟩, .string ⟨#[]⟩, .slice none 0 0, .slice none 0 0, .int .i64 4])) (w2.setRow (w.heap.size + 1 + 1) #[.int .i64 0, .string ⟨#[]⟩, .int .i64 0, .string ⟨#[]⟩, .string ⟨#[]⟩, .slice none 0 0, .slice none 0 0, .int .i64 4])) := hZ ⟨[.int .i64 0, .string ⟨#[]⟩, .int .i64 0, .string ⟨#[]⟩, .string ⟨#[]⟩, .slice none 0 0, .slice none 0 0], by rw [othM_no hk]; rfl, by rw [othM_no hk]; exact fun wz _ => zero_at _, setRow_below (below_over HB3.out HB2.out) hbl _⟩;clear hk;go_upto_region 3 with fail
  go_wp2_with (first | ((with_reducible refine wpList_putRow 140 (w.heap.size + 1 + 1) #[.int .i64 0, .string ⟨#[]⟩, .int .i64 0, .string ⟨#[]⟩, .string ⟨#[]⟩, .slice none 0 0, .slice none 0 0, .int .i64 4] _ _ X5 ?_ ?_ ?_ ?_ ?_ ?_); exact meSize; rfl; exact meOne; (focus (first | (go_simp; done) | rfl)); (focus (first | (go_simp; done) | rfl))))
  exact ret_agg1 (fn := Tryz.f153) (vs := [.int .i64 0, .string ⟨#[]⟩, .int .i64 0, .string ⟨#[]⟩, .string ⟨#[]⟩, .slice none 0 0, .slice none 0 0, .int .i64 4]) (b := w.heap.size + 1 + 1) rfl rfl Tryz.underlying140 (by kernel_rfl) (cell8 (setRow_heap w2 (w.heap.size + 1 + 1) _ _ _ _ HX5.out)) rfl FIN.out
 | some k =>
  obtain rfl : J = (k : Int) := by rw [HJ.out, hk]; rfl
  have hkl : k < ni := by rw [HNI.out]; exact idx_lt hk
  obtain ⟨x, hx⟩ : ∃ x, m.imps[k]? = some x := ⟨_, List.getElem?_eq_getElem (by rw [<- HNI.out]; exact hkl)⟩;obtain ⟨g, o, rfl, hg, b0, b1, b2, b3, -⟩ := HI0.out.im hx;have EQ := hZ (othM_at (env := env) (n := nm) hk hx);obtain ⟨y, hy⟩ : ∃ y, y = gotI env x := ⟨_, rfl⟩;have HY := hZ hy;have hws : w.heap.size < w2.heap.size := by have := HB2.out.size; omega
  have KEEP : Hid (∀ wx : World, Below w2.heap.size w2 wx -> wx.cell? ⟨w.heap.size, 1, none⟩ = some (.slice (some ⟨g, o, none⟩) ni ci) /\ wx.cell? ⟨w.heap.size, 5, none⟩ = some (.slice Ae ne ce) /\ wx.cell? ⟨g, o + k * 4, none⟩ = some (.string x.pkg) /\ wx.cell? ⟨g, o + k * 4 + 1, none⟩ = some (.int .i64 x.major) /\ wx.cell? ⟨g, o + k * 4 + 2, none⟩ = some (.string x.mod) /\ wx.cell? ⟨g, o + k * 4 + 3, none⟩ = some (.string x.asn)) := hZ (fun wx hb => by
   have Bx := below_over HB2.out hb;have Bw := below_over HB0w.out (below_over HB3.out Bx);have X := HM.out wx Bx;exact ⟨cZ X 1, cZ X 5, (Bw.cell (p := ⟨g, _, none⟩) hg).trans b0, (Bw.cell (p := ⟨g, _, none⟩) hg).trans b1, (Bw.cell (p := ⟨g, _, none⟩) hg).trans b2, (Bw.cell (p := ⟨g, _, none⟩) hg).trans b3⟩)
  have CF := hZ (fun w' (hb : Below w2.heap.size w2 w') => HFD.out x w' (below_over HB0w.out (below_over HB3.out (below_over HB2.out hb))));have hk0 : (0 : Int) <= k := by omega
  have hk1 : (k : Int) < ni := by omega
  have hk2 : ¬ (k : Int) < 0 := by omega
  clear hk hx hg b0 b1 b2 b3 hy;go_upto_region 4 with fail
  go_cut [6] (fun s6 wx => ∃ (bx : Nat) (At : Option Addr) (ct : Nat) (Av : Option Addr) (cv : Nat), s6 = .pointer (some ⟨bx, 0, none⟩) /\ wx.heap[bx]? = some (.cells #[.string y.pkg, .int .i64 y.major, .string y.mod, .slice At y.types.length ct, .slice Av y.vals.length cv] 32 (0, 0)) /\ (∀ wz, Below w0.heap.size w0 wz -> RowIn nmR wz At y.types) /\ y.types.length <= 9223372036854775807 /\ Below w2.heap.size w2 wx)
  case first =>
   have hH0 := KEEP.out w2.drew (Below.drew (Below.refl _ _));refine AnyX.start (fun wx => wx.cell? ⟨w.heap.size, 1, none⟩ = some (.slice (some ⟨g, o, none⟩) ni ci) /\ wx.cell? ⟨w.heap.size, 5, none⟩ = some (.slice Ae ne ce) /\ wx.cell? ⟨g, o + k * 4, none⟩ = some (.string x.pkg) /\ wx.cell? ⟨g, o + k * 4 + 1, none⟩ = some (.int .i64 x.major) /\ wx.cell? ⟨g, o + k * 4 + 2, none⟩ = some (.string x.mod) /\ wx.cell? ⟨g, o + k * 4 + 3, none⟩ = some (.string x.asn)) (fun k => [8, 13].contains k) (by kernel_rfl) ?_;refine AnyX.mv (i := 0) (v := ?_) rfl (fun _ _ _ h => h) (Or.inl ⟨by rfl, ?_⟩) ?_;rotate_left
   ·(intro wS _; go_simp; try with_reducible rfl)
   simp only [getElem_toArray, getElem_cons_succ, getElem_cons_zero];simp only [Act.put, setIfInBounds_toArray];simp only [set_cons_zero, set_cons_succ];refine AnyX.tk (i := 1) (v := ?_) rfl (fun _ _ _ h => h) hH0 (Or.inl ⟨by rfl, ?_⟩) ?_;rotate_left
   ·(intro wS hS; (try obtain ⟨m1, m5, c0, c1, c2, c3⟩ := hS); go_simp; try with_reducible rfl)
   simp only [getElem_toArray, getElem_cons_succ, getElem_cons_zero];simp only [Act.put, setIfInBounds_toArray];simp only [set_cons_zero, set_cons_succ];refine AnyX.mv (i := 2) (v := ?_) rfl (fun _ _ _ h => h) (Or.inl ⟨by rfl, ?_⟩) ?_;rotate_left
   ·(intro wS _; go_simp; try with_reducible rfl)
   simp only [getElem_toArray, getElem_cons_succ, getElem_cons_zero];simp only [Act.put, setIfInBounds_toArray];simp only [set_cons_zero, set_cons_succ];refine AnyX.mv (i := 3) (v := ?_) rfl (fun _ _ _ h => h) (Or.inl ⟨by rfl, ?_⟩) ?_;rotate_left
   ·(intro wS _; go_simp; try with_reducible rfl)
   simp only [getElem_toArray, getElem_cons_succ, getElem_cons_zero];simp only [Act.put, setIfInBounds_toArray];simp only [set_cons_zero, set_cons_succ];refine AnyX.tk (i := 4) (v := ?_) rfl (fun _ _ _ h => h) hH0 (Or.inl ⟨by rfl, ?_⟩) ?_;rotate_left
   ·(intro wS hS; (try obtain ⟨m1, m5, c0, c1, c2, c3⟩ := hS); go_simp; try with_reducible rfl)
   simp only [getElem_toArray, getElem_cons_succ, getElem_cons_zero];simp only [Act.put, setIfInBounds_toArray];simp only [set_cons_zero, set_cons_succ];refine AnyX.mv (i := 5) (v := ?_) rfl (fun _ _ _ h => h) (Or.inl ⟨by rfl, ?_⟩) ?_;rotate_left
   ·(intro wS _; go_simp; try with_reducible rfl)
   simp only [getElem_toArray, getElem_cons_succ, getElem_cons_zero];simp only [Act.put, setIfInBounds_toArray];simp only [set_cons_zero, set_cons_succ];refine AnyX.mv (i := 6) (v := ?_) rfl (fun _ _ _ h => h) (Or.inl ⟨by rfl, ?_⟩) ?_;rotate_left
   ·(intro wS _; go_simp; try with_reducible rfl)
   simp only [getElem_toArray, getElem_cons_succ, getElem_cons_zero];simp only [Act.put, setIfInBounds_toArray];simp only [set_cons_zero, set_cons_succ];refine AnyX.tk (i := 7) (v := ?_) rfl (fun _ _ _ h => h) hH0 (Or.inl ⟨by rfl, ?_⟩) ?_;rotate_left
   ·(intro wS hS; (try obtain ⟨m1, m5, c0, c1, c2, c3⟩ := hS); go_simp; try with_reducible rfl)
   simp only [getElem_toArray, getElem_cons_succ, getElem_cons_zero];simp only [Act.put, setIfInBounds_toArray];simp only [set_cons_zero, set_cons_succ];refine AnyX.go2 8 12 (by kernel_rfl) rfl rfl rfl rfl (fun K hK => ?_) (fun K hK => ?_)
   ·simp only [getElem_toArray, getElem_cons_succ, getElem_cons_zero]
    go_simp
    refine (CF.out w2.drew (Below.drew (Below.refl _ _))).mono ?_;rintro e w5 ⟨l5, rfl, hL, hb5⟩;rw [<- HY.out] at hL;have hL0 := hL w0 (Below.refl _ _);obtain ⟨At, ct, Av, cv, rfl, -, -, hlt, -, -, -⟩ := hL0
    have hT : ∀ wz, Below w0.heap.size w0 wz -> RowIn nmR wz At y.types := fun wz hb => by
     obtain ⟨A', c', A'', c'', e', -, -, -, -, h6, -⟩ := hL wz hb;simp at e';rw [e'.1.1]; exact h6
    clear hL;simp only [];refine hK.out _ _ (fun hoff _ => absurd hoff (by decide)) ?_;clear hK;(try simp only [Act.put, setIfInBounds_toArray]);(try simp only [set_cons_zero, set_cons_succ]);refine AnyX.mv (i := 9) (v := ?_) rfl (fun _ _ _ h => h) (Or.inl ⟨by rfl, ?_⟩) ?_;rotate_left
    ·(intro wS _; go_simp; try with_reducible rfl)
    simp only [getElem_toArray, getElem_cons_succ, getElem_cons_zero];simp only [Act.put, setIfInBounds_toArray];simp only [set_cons_zero, set_cons_succ];refine AnyX.mv (i := 10) (v := ?_) rfl (fun _ _ _ h => h) (Or.inl ⟨by rfl, ?_⟩) ?_;rotate_left
    ·(intro wS _; go_simp; try with_reducible rfl)
    simp only [getElem_toArray, getElem_cons_succ, getElem_cons_zero];simp only [Act.put, setIfInBounds_toArray];simp only [set_cons_zero, set_cons_succ];refine AnyX.mv (i := 11) (v := ?_) rfl (fun _ _ _ h => h) (Or.inl ⟨by rfl, ?_⟩) ?_;rotate_left
    ·(intro wS _; go_simp; try with_reducible rfl)
    simp only [getElem_toArray, getElem_cons_succ, getElem_cons_zero];simp only [Act.put, setIfInBounds_toArray];simp only [set_cons_zero, set_cons_succ];refine AnyX.go 12 (by kernel_rfl) rfl rfl (fun K hK => ?_);simp only [getElem_toArray, getElem_cons_succ, getElem_cons_zero];go_simp
    refine hK.out _ _ (fun _ hS => by obtain ⟨m1, m5, c0, c1, c2, c3⟩ := hS; exact ⟨cell_alloc m1, cell_alloc m5, cell_alloc c0, cell_alloc c1, cell_alloc c2, cell_alloc c3⟩) ?_;clear hK;(try simp only [Act.put, setIfInBounds_toArray]);(try simp only [set_cons_zero, set_cons_succ]);refine AnyX.go 13 (by kernel_rfl) rfl rfl (fun K hK => ?_);simp only [getElem_toArray, getElem_cons_succ, getElem_cons_zero];refine wp_store_row 32 (.tmp 6) (.tmp 28) rfl w5.heap.size #[.string y.pkg, .int .i64 y.major, .string y.mod, .slice At y.types.length ct, .slice Av y.vals.length cv] rfl rfl _ _ (heap_alloc_new w5 _) ifSize rfl ifOne ?_;refine hK.out _ _ (fun hoff _ => absurd hoff (by decide)) ?_;clear hK;(try simp only [Act.put, setIfInBounds_toArray]);(try simp only [set_cons_zero, set_cons_succ]);refine AnyX.mv (i := 14) (v := ?_) rfl (fun _ _ _ h => h) (Or.inl ⟨by rfl, ?_⟩) ?_;rotate_left
    ·(intro wS _; go_simp; try with_reducible rfl)
    simp only [getElem_toArray, getElem_cons_succ, getElem_cons_zero];simp only [Act.put, setIfInBounds_toArray];simp only [set_cons_zero, set_cons_succ];refine AnyX.done (by kernel_rfl) ?_ _;go_wp2_with fail
    go_meet
    have hb5' : Below w2.heap.size w2 w5 := Below.trans (Below.drew (Below.refl w2.heap.size w2)) hb5
    have hbn := setRow_below (below_new hb5' (.cells #[.string ⟨#[]⟩, .int .i64 0, .string ⟨#[]⟩, .slice none 0 0, .slice none 0 0] 32)) (b := w5.heap.size) hb5'.size #[.string y.pkg, .int .i64 y.major, .string y.mod, .slice At y.types.length ct, .slice Av y.vals.length cv];exact ⟨w5.heap.size, At, ct, Av, cv, rfl, setRow_heap _ _ _ _ _ _ (heap_alloc_new w5 _), hT, hlt, hbn⟩
   ·simp only [getElem_toArray, getElem_cons_succ, getElem_cons_zero]
    go_simp
    refine hK.out _ _ (fun _ hS => by obtain ⟨m1, m5, c0, c1, c2, c3⟩ := hS; exact ⟨cell_alloc m1, cell_alloc m5, cell_alloc c0, cell_alloc c1, cell_alloc c2, cell_alloc c3⟩) ?_;clear hK;(try simp only [Act.put, setIfInBounds_toArray]);(try simp only [set_cons_zero, set_cons_succ]);obtain ⟨wa, hwa⟩ : ∃ wa, wa = (w2.alloc (.cells #[.string ⟨#[]⟩, .int .i64 0, .string ⟨#[]⟩, .slice none 0 0, .slice none 0 0] 32)).drew := ⟨_, rfl⟩;have Ba : Below w2.heap.size w2 wa := by rw [hwa]; exact Below.drew (below_new (Below.refl _ _) _)
    have Xa : wa.heap[w2.heap.size]? = some (.cells #[.string ⟨#[]⟩, .int .i64 0, .string ⟨#[]⟩, .slice none 0 0, .slice none 0 0] 32 (0, 0)) := by rw [hwa]; exact heap_alloc_new w2 _
    have sa : w2.heap.size < wa.heap.size := by rw [hwa]; simp
    rw [<- hwa];clear hwa;refine AnyX.go 8 (by kernel_rfl) rfl rfl (fun K hK => ?_);simp only [getElem_toArray, getElem_cons_succ, getElem_cons_zero];go_simp
    refine (CF.out wa Ba).mono ?_;rintro e w5 ⟨l5, rfl, hL, hb5⟩;rw [<- HY.out] at hL;have hL0 := hL w0 (Below.refl _ _);obtain ⟨At, ct, Av, cv, rfl, -, -, hlt, -, -, -⟩ := hL0
    have hT : ∀ wz, Below w0.heap.size w0 wz -> RowIn nmR wz At y.types := fun wz hb => by
     obtain ⟨A', c', A'', c'', e', -, -, -, -, h6, -⟩ := hL wz hb;simp at e';rw [e'.1.1]; exact h6
    clear hL;have X5 := (hb5.block _ sa).trans Xa;simp only [];refine hK.out _ _ (fun hoff _ => absurd hoff (by decide)) ?_;clear hK;(try simp only [Act.put, setIfInBounds_toArray]);(try simp only [set_cons_zero, set_cons_succ]);refine AnyX.mv (i := 9) (v := ?_) rfl (fun _ _ _ h => h) (Or.inl ⟨by rfl, ?_⟩) ?_;rotate_left
    ·(intro wS _; go_simp; try with_reducible rfl)
    simp only [getElem_toArray, getElem_cons_succ, getElem_cons_zero];simp only [Act.put, setIfInBounds_toArray];simp only [set_cons_zero, set_cons_succ];refine AnyX.mv (i := 10) (v := ?_) rfl (fun _ _ _ h => h) (Or.inl ⟨by rfl, ?_⟩) ?_;rotate_left
    ·(intro wS _; go_simp; try with_reducible rfl)
    simp only [getElem_toArray, getElem_cons_succ, getElem_cons_zero];simp only [Act.put, setIfInBounds_toArray];simp only [set_cons_zero, set_cons_succ];refine AnyX.mv (i := 11) (v := ?_) rfl (fun _ _ _ h => h) (Or.inl ⟨by rfl, ?_⟩) ?_;rotate_left
    ·(intro wS _; go_simp; try with_reducible rfl)
    simp only [getElem_toArray, getElem_cons_succ, getElem_cons_zero];simp only [Act.put, setIfInBounds_toArray];simp only [set_cons_zero, set_cons_succ];refine AnyX.go 13 (by kernel_rfl) rfl rfl (fun K hK => ?_);simp only [getElem_toArray, getElem_cons_succ, getElem_cons_zero];refine wp_store_row 32 (.tmp 6) (.tmp 28) rfl w2.heap.size #[.string y.pkg, .int .i64 y.major, .string y.mod, .slice At y.types.length ct, .slice Av y.vals.length cv] rfl rfl _ _ X5 ifSize rfl ifOne ?_;refine hK.out _ _ (fun hoff _ => absurd hoff (by decide)) ?_;clear hK;(try simp only [Act.put, setIfInBounds_toArray]);(try simp only [set_cons_zero, set_cons_succ]);refine AnyX.mv (i := 14) (v := ?_) rfl (fun _ _ _ h => h) (Or.inl ⟨by rfl, ?_⟩) ?_;rotate_left
    ·(intro wS _; go_simp; try with_reducible rfl)
    simp only [getElem_toArray, getElem_cons_succ, getElem_cons_zero];simp only [Act.put, setIfInBounds_toArray];simp only [set_cons_zero, set_cons_succ];refine AnyX.done (by kernel_rfl) ?_ _;go_wp2_with fail
    go_meet
    exact ⟨w2.heap.size, At, ct, Av, cv, rfl, setRow_heap _ _ _ _ _ _ X5, hT, hlt, setRow_below (below_over Ba hb5) (Nat.le_refl _) _⟩
  case rest =>
   obtain ⟨bx, At, ct, Av, cv, rfl, hbx, hT, hlt, hbc⟩ := hcut;obtain ⟨wc', rfl⟩ : ∃ wc' : World, wc' = wc := ⟨_, rfl⟩;have HBC : Hid (Below W3.heap.size W3 wc') := hZ (below_over HB2.out hbc);have i3 := cZ hbx 3;have t1 := cZ (HT.out wc' HBC.out) 1;simp at i3 t1;have OC := hZ (of8_any At ct y.types nm w0 wc' (hT w0 (Below.refl _ _)) (below_over HB0w.out (below_over HB3.out HBC.out)) hlt);clear hbx hT hlt hbc;go_wp2_with fail
   refine OC.out.mono ?_; rintro e w6 ⟨l7, rfl, hL, hb6⟩
   obtain ⟨t, ht⟩ : ∃ t, t = gotT y.types nm := ⟨_, rfl⟩;rw [<- ht] at hL;have hL0 := hL w0 (Below.refl _ _);obtain ⟨Bn, cB, Bs, dB, rfl, -⟩ := hL0.parts;have HL := hZ hL;have HB6 : Hid (Below W3.heap.size W3 w6) := hZ (below_over HBC.out hb6);obtain ⟨w7, hw7⟩ : ∃ w7, w7 = w6.alloc (.cells #[.int .i64 t.kind, .string t.pkg, .int .i64 t.major, .string t.mod, .string t.name, .slice Bn t.names.length cB, .slice Bs t.subs.length dB] 45) := ⟨_, rfl⟩;have B7 : Below w6.heap.size w6 w7 := by rw [hw7]; exact below_new (Below.refl _ _) _
   have O7 : w7.heap[w6.heap.size]? = some (.cells #[.int .i64 t.kind, .string t.pkg, .int .i64 t.major, .string t.mod, .string t.name, .slice Bn t.names.length cB, .slice Bs t.subs.length dB] 45 (0, 0)) := by rw [hw7]; exact heap_alloc_new w6 _
   have hl7 : w6.heap.size < w7.heap.size := by rw [hw7]; simp
   have HB7 : Hid (Below W3.heap.size W3 w7) := hZ (below_over HB6.out B7);have HO7 := hZ O7;have HW7 := hZ hw7;have EQ2 : Hid (othM m env s nm = if (mayT t && plainT t) = true then (t, 0) else (zTy, 9)) := hZ (by rw [EQ.out, ht, HY.out]);have PC := hZ (plainK_any t (.agg #[.int .i64 t.kind, .string t.pkg, .int .i64 t.major, .string t.mod, .string t.name, .slice Bn t.names.length cB, .slice Bs t.subs.length dB]) w7 ⟨_, rfl, HL.out w7 (below_over HB0w.out (below_over HB3.out HB7.out))⟩);clear hL hL0 hb6 hw7 B7 O7 i3 t1 ht OC;go_upto_region 6 with fail
   rw [<- HW7.out];have o7 := HO7.out;obtain ⟨r0, r1, r2, r3, r4, r5, r6⟩ := cq7 o7;simp at r0 r1 r2 r3 r4 r5 r6;clear o7 HW7;go_wp2_with fail
   refine PC.out.mono ?_; rintro e w8 ⟨rfl, hb8⟩
   obtain ⟨q, hq⟩ : ∃ q, q = (mayT t && plainT t) := ⟨_, rfl⟩;rw [<- hq];have HB8 : Hid (Below W3.heap.size W3 w8) := hZ (below_over HB7.out hb8);have o8 := (hb8.block _ hl7).trans HO7.out;have HQ := hZ hq;clear r0 r1 r2 r3 r4 r5 r6 hb8 hq PC;obtain ⟨r0, r1, r2, r3, r4, r5, r6⟩ := cq7 o8;simp at r0 r1 r2 r3 r4 r5 r6;clear o8;have X5 := HR.out w8 HB8.out;have HX5 := hZ X5;cases q with
   | false =>
    have FIN : Hid (MeOut w0 w (othM m env s nm).1 (othM m env s nm).2 (.returned (.agg #[.int .i64 0, .string ⟨#[]⟩, .int .i64 0, .string ⟨#[]⟩, .string ⟨#[]⟩, .slice none 0 0, .slice none 0 0, .int .i64 9])) (w8.setRow (w.heap.size + 1 + 1) #[.int .i64 0, .string ⟨#[]⟩, .int .i64 0, .string ⟨#[]⟩, .string ⟨#[]⟩, .slice none 0 0, .slice none 0 0, .int .i64 9])) := hZ ⟨[.int .i64 0, .string ⟨#[]⟩, .int .i64 0, .string ⟨#[]⟩, .string ⟨#[]⟩, .slice none 0 0, .slice none 0 0], by rw [EQ2.out, <- HQ.out]; rfl, by rw [EQ2.out, <- HQ.out]; exact fun wz _ => zero_at _, setRow_below (below_over HB3.out HB8.out) hbl _⟩;go_upto_region 7 with fail
    go_wp2_with (first | ((with_reducible refine wpList_putRow 140 (w.heap.size + 1 + 1) #[.int .i64 0, .string ⟨#[]⟩, .int .i64 0, .string ⟨#[]⟩, .string ⟨#[]⟩, .slice none 0 0, .slice none 0 0, .int .i64 9] _ _ X5 ?_ ?_ ?_ ?_ ?_ ?_); exact meSize; rfl; exact meOne; (focus (first | (go_simp; done) | rfl)); (focus (first | (go_simp; done) | rfl))))
    exact ret_agg1 (fn := Tryz.f153) (vs := [.int .i64 0, .string ⟨#[]⟩, .int .i64 0, .string ⟨#[]⟩, .string ⟨#[]⟩, .slice none 0 0, .slice none 0 0, .int .i64 9]) (b := w.heap.size + 1 + 1) rfl rfl Tryz.underlying140 (by kernel_rfl) (cell8 (setRow_heap w8 (w.heap.size + 1 + 1) _ _ _ _ HX5.out)) rfl FIN.out
   | true =>
    have FIN : Hid (MeOut w0 w (othM m env s nm).1 (othM m env s nm).2 (.returned (.agg #[.int .i64 t.kind, .string t.pkg, .int .i64 t.major, .string t.mod, .string t.name, .slice Bn t.names.length cB, .slice Bs t.subs.length dB, .int .i64 0])) (w8.setRow (w.heap.size + 1 + 1) #[.int .i64 t.kind, .string t.pkg, .int .i64 t.major, .string t.mod, .string t.name, .slice Bn t.names.length cB, .slice Bs t.subs.length dB, .int .i64 0])) := hZ (by
     have hb := setRow_below (below_over HB3.out HB8.out) hbl #[.int .i64 t.kind, .string t.pkg, .int .i64 t.major, .string t.mod, .string t.name, .slice Bn t.names.length cB, .slice Bs t.subs.length dB, .int .i64 0];exact ⟨[.int .i64 t.kind, .string t.pkg, .int .i64 t.major, .string t.mod, .string t.name, .slice Bn t.names.length cB, .slice Bs t.subs.length dB], by rw [EQ2.out, <- HQ.out]; rfl, by rw [EQ2.out, <- HQ.out]; exact fun wz hz => HL.out wz hz, hb⟩)
    go_upto_region 8 with fail
    go_wp2_with (first | ((with_reducible refine wpList_putRow 140 (w.heap.size + 1 + 1) #[.int .i64 t.kind, .string t.pkg, .int .i64 t.major, .string t.mod, .string t.name, .slice Bn t.names.length cB, .slice Bs t.subs.length dB, .int .i64 0] _ _ X5 ?_ ?_ ?_ ?_ ?_ ?_); exact meSize; rfl; exact meOne; (focus (first | (go_simp; done) | rfl)); (focus (first | (go_simp; done) | rfl))))
    exact ret_agg1 (fn := Tryz.f153) (vs := [.int .i64 t.kind, .string t.pkg, .int .i64 t.major, .string t.mod, .string t.name, .slice Bn t.names.length cB, .slice Bs t.subs.length dB, .int .i64 0]) (b := w.heap.size + 1 + 1) rfl rfl Tryz.underlying140 (by kernel_rfl) (cell8 (setRow_heap w8 (w.heap.size + 1 + 1) _ _ _ _ HX5.out)) rfl FIN.out
def lookM (m : Mo) (pkg : ByteArray) (major : Int) (env : List If) (s n : ByteArray) : Ty × Int := if s.size = 0 then ownM m pkg major n else othM m env s n
theorem lookN_any (m : Mo) (pkg : ByteArray) (major : Int) (env : List If) (kb : Nat) (s nm : ByteArray) (hnm : nm.size <= 9223372036854775807) (l : List Value) (w0 w : World) (h : NsAt w0 l m pkg major env kb) (hw : Below w0.heap.size w0 w) :
  Calls Tryz.prog 128 #[.agg l.toArray, .agg #[.string s, .string nm]] w (MeOut w0 w (lookM m pkg major env s nm).1 (lookM m pkg major env s nm).2) := by
 have HN := hZ h
 have HB0w := hZ hw
 have HCN := hZ (fun (wx : World) (hb : Below w0.heap.size w0 wx) => ownN_any m pkg major env kb nm hnm l w0 wx h hb)
 have HCO := hZ (fun (wx : World) (hb : Below w0.heap.size w0 wx) => othersN_any m pkg major env kb s nm l w0 wx h hb)
 obtain ⟨Ai, ci, Ad, cd, Ae, ce, rfl, -⟩ := h
 obtain ⟨W2, hW2, B2, O0, O1, hl2⟩ := two_boxes w #[.string m.name, .slice Ai m.imps.length ci, .slice Ad m.decs.length cd, .string pkg, .int .i64 major, .slice Ae env.length ce, .map (some kb)] #[.string s, .string nm] 97 186
 have s2 : W2.heap.size = w.heap.size + 1 + 1 := by rw [hW2]; simp
 obtain ⟨W3, hW3⟩ : ∃ W3, W3 = W2.alloc (.cells #[.int .i64 0, .string ⟨#[]⟩, .int .i64 0, .string ⟨#[]⟩, .string ⟨#[]⟩, .slice none 0 0, .slice none 0 0, .int .i64 0] 140) := ⟨_, rfl⟩
 have B3 : Below W2.heap.size W2 W3 := by rw [hW3]; exact below_new (Below.refl _ _) _
 have s3 : W3.heap.size = w.heap.size + 1 + 1 + 1 := by rw [hW3]; simp [s2]
 have O2 : W3.heap[w.heap.size + 1 + 1]? = some (.cells #[.int .i64 0, .string ⟨#[]⟩, .int .i64 0, .string ⟨#[]⟩, .string ⟨#[]⟩, .slice none 0 0, .slice none 0 0, .int .i64 0] 140 (0, 0)) := by rw [hW3, <- s2]; exact heap_alloc_new W2 _
 have HB3 : Hid (Below w.heap.size w W3) := hZ (below_over B2 B3)
 have X0 := (B3.block w.heap.size (by omega)).trans O0
 have X1 := (B3.block (w.heap.size + 1) (by omega)).trans O1
 have HO2 := hZ O2
 have HW : Hid (((w.alloc (.cells #[.string m.name, .slice Ai m.imps.length ci, .slice Ad m.decs.length cd, .string pkg, .int .i64 major, .slice Ae env.length ce, .map (some kb)] 97)).alloc (.cells #[.string s, .string nm] 186)).alloc (.cells #[.int .i64 0, .string ⟨#[]⟩, .int .i64 0, .string ⟨#[]⟩, .string ⟨#[]⟩, .slice none 0 0, .slice none 0 0, .int .i64 0] 140) = W3) := hZ (by rw [hW3, hW2])
 have hbl : w.heap.size <= w.heap.size + 1 + 1 := by omega
 obtain ⟨x0, x1, x2, x3, x4, x5, x6⟩ := cq7 X0
 obtain ⟨p0, p1⟩ := cq2 X1
 simp at x0 x1 x2 x3 x4 x5 x6 p0 p1
 have CN := hZ (HCN.out W3 (below_over HB0w.out HB3.out))
 have CO := hZ (HCO.out W3 (below_over HB0w.out HB3.out))
 obtain ⟨D, hD⟩ : ∃ D, D = lookM m pkg major env s nm := ⟨_, rfl⟩
 rw [<- hD]
 have HD := hZ hD
 clear hw hW2 hW3 B2 B3 O0 O1 O2 s2 hl2 X0 X1 hD
 by_cases hz : s.size = 0
 ·obtain ⟨z1, z2⟩ := empty_facts _ hz
  have ED : Hid (ownM m pkg major nm = D) := hZ (by rw [HD.out]; unfold lookM; rw [if_pos hz]);rw [ED.out] at CN;clear hz;go_enter Tryz.func128, Tryz.ntmps128
  go_upto_region 1 with fail
  rw [HW.out];go_wp2_with fail
  refine CN.out.mono ?_; rintro e w4 ⟨l7, rfl, hL, hb4⟩
  have X5 := (hb4.block _ (by omega : w.heap.size + 1 + 1 < W3.heap.size)).trans HO2.out;have HX5 := hZ X5;obtain ⟨Bn, cB, Bs, dB, rfl, -⟩ := (hL w0 (Below.refl _ _)).parts;have hb := setRow_below (below_over HB3.out hb4) hbl #[.int .i64 D.1.kind, .string D.1.pkg, .int .i64 D.1.major, .string D.1.mod, .string D.1.name, .slice Bn D.1.names.length cB, .slice Bs D.1.subs.length dB, .int .i64 D.2];have FIN : Hid (MeOut w0 w D.1 D.2 (.returned (.agg #[.int .i64 D.1.kind, .string D.1.pkg, .int .i64 D.1.major, .string D.1.mod, .string D.1.name, .slice Bn D.1.names.length cB, .slice Bs D.1.subs.length dB, .int .i64 D.2])) (w4.setRow (w.heap.size + 1 + 1) #[.int .i64 D.1.kind, .string D.1.pkg, .int .i64 D.1.major, .string D.1.mod, .string D.1.name, .slice Bn D.1.names.length cB, .slice Bs D.1.subs.length dB, .int .i64 D.2])) := hZ ⟨[.int .i64 D.1.kind, .string D.1.pkg, .int .i64 D.1.major, .string D.1.mod, .string D.1.name, .slice Bn D.1.names.length cB, .slice Bs D.1.subs.length dB], rfl, hL, hb⟩;clear hL hb4 x0 x1 x2 x3 x4 x5 x6 p0 p1 z1 z2 hb;go_wp2_with (first | ((with_reducible refine wpList_putRow 140 (w.heap.size + 1 + 1) #[.int .i64 D.1.kind, .string D.1.pkg, .int .i64 D.1.major, .string D.1.mod, .string D.1.name, .slice Bn D.1.names.length cB, .slice Bs D.1.subs.length dB, .int .i64 D.2] _ _ X5 ?_ ?_ ?_ ?_ ?_ ?_); exact meSize; rfl; exact meOne; (focus (first | (go_simp; done) | rfl)); (focus (first | (go_simp; done) | rfl))))
  exact ret_agg1 (fn := Tryz.f128) (vs := [.int .i64 D.1.kind, .string D.1.pkg, .int .i64 D.1.major, .string D.1.mod, .string D.1.name, .slice Bn D.1.names.length cB, .slice Bs D.1.subs.length dB, .int .i64 D.2]) (b := w.heap.size + 1 + 1) rfl rfl Tryz.underlying140 (by kernel_rfl) (cell8 (setRow_heap w4 (w.heap.size + 1 + 1) _ _ _ _ HX5.out)) rfl FIN.out
 ·obtain ⟨z1, z2⟩ := full_facts _ hz
  have ED : Hid (othM m env s nm = D) := hZ (by rw [HD.out]; unfold lookM; rw [if_neg hz]);rw [ED.out] at CO;clear hz;go_enter Tryz.func128, Tryz.ntmps128
  go_upto_region 1 with fail
  rw [HW.out];go_wp2_with fail
  refine CO.out.mono ?_; rintro e w4 ⟨l7, rfl, hL, hb4⟩
  have X5 := (hb4.block _ (by omega : w.heap.size + 1 + 1 < W3.heap.size)).trans HO2.out;have HX5 := hZ X5;obtain ⟨Bn, cB, Bs, dB, rfl, -⟩ := (hL w0 (Below.refl _ _)).parts;have hb := setRow_below (below_over HB3.out hb4) hbl #[.int .i64 D.1.kind, .string D.1.pkg, .int .i64 D.1.major, .string D.1.mod, .string D.1.name, .slice Bn D.1.names.length cB, .slice Bs D.1.subs.length dB, .int .i64 D.2];have FIN : Hid (MeOut w0 w D.1 D.2 (.returned (.agg #[.int .i64 D.1.kind, .string D.1.pkg, .int .i64 D.1.major, .string D.1.mod, .string D.1.name, .slice Bn D.1.names.length cB, .slice Bs D.1.subs.length dB, .int .i64 D.2])) (w4.setRow (w.heap.size + 1 + 1) #[.int .i64 D.1.kind, .string D.1.pkg, .int .i64 D.1.major, .string D.1.mod, .string D.1.name, .slice Bn D.1.names.length cB, .slice Bs D.1.subs.length dB, .int .i64 D.2])) := hZ ⟨[.int .i64 D.1.kind, .string D.1.pkg, .int .i64 D.1.major, .string D.1.mod, .string D.1.name, .slice Bn D.1.names.length cB, .slice Bs D.1.subs.length dB], rfl, hL, hb⟩;clear hL hb4 x0 x1 x2 x3 x4 x5 x6 p0 p1 z1 z2 hb;go_wp2_with (first | ((with_reducible refine wpList_putRow 140 (w.heap.size + 1 + 1) #[.int .i64 D.1.kind, .string D.1.pkg, .int .i64 D.1.major, .string D.1.mod, .string D.1.name, .slice Bn D.1.names.length cB, .slice Bs D.1.subs.length dB, .int .i64 D.2] _ _ X5 ?_ ?_ ?_ ?_ ?_ ?_); exact meSize; rfl; exact meOne; (focus (first | (go_simp; done) | rfl)); (focus (first | (go_simp; done) | rfl))))
  exact ret_agg1 (fn := Tryz.f128) (vs := [.int .i64 D.1.kind, .string D.1.pkg, .int .i64 D.1.major, .string D.1.mod, .string D.1.name, .slice Bn D.1.names.length cB, .slice Bs D.1.subs.length dB, .int .i64 D.2]) (b := w.heap.size + 1 + 1) rfl rfl Tryz.underlying140 (by kernel_rfl) (cell8 (setRow_heap w4 (w.heap.size + 1 + 1) _ _ _ _ HX5.out)) rfl FIN.out
theorem lawPlace : WideMaps.KeyLaw Tryz.prog 186 := deep_law (m := 2) (by omega) (by kernel_rfl) (by kernel_rfl) (by kernel_rfl)
def plV (a b : ByteArray) : Value := .agg #[.string a, .string b]
theorem keyPl (a b : ByteArray) (ha : a.size <= 9223372036854775807) (hb : b.size <= 9223372036854775807) : ∃ l, keyOf Tryz.prog 186 (plV a b) = some l := by
  have ha' : a.size <= maxLen := by unfold maxLen; omega
  have hb' : b.size <= maxLen := by unfold maxLen; omega
  have key : ∀ d, Tryz.prog.keyLits (d + 2) 186 [.string a, .string b] = some [.string a.data.toList, .string b.data.toList] := by
    intro d;unfold Program.keyLits
    rw [Tryz.underlying186];simp only [];rw [if_pos ⟨by kernel_rfl, by kernel_rfl⟩];have e1 : Tryz.prog.cellsOf 9 = 1 := tyCellsStr;simp [List.mapM_cons, Program.keyLits, Tryz.underlying9, ha', hb', e1]
  refine ⟨.string (keyBytes [.string a.data.toList, .string b.data.toList]), ?_⟩;unfold keyOf
  rw [Tryz.underlying186];simp only [];have hk : Tryz.prog.keyType 186 = true := by kernel_rfl
  have hf : (plV a b).formed Tryz.prog 186 = true := by
    unfold plV Value.formed
    rw [Tryz.underlying186];kernel_rfl
  have hs : Tryz.prog.types.size + 1 = (Tryz.prog.types.size - 1) + 2 := by
    have : 1 <= Tryz.prog.types.size := of_decide_eq_true (by kernel_rfl)
    omega
  rw [hk, hf, hs];have hc : (plV a b).cells.toList = [.string a, .string b] := rfl;rw [hc, key];rfl
def PlKeys (es : Array MapEntry) : Prop := ∀ e ∈ es.toList, ∃ x y : ByteArray, e.key = plV x y /\ x.size <= 9223372036854775807 /\ y.size <= 9223372036854775807
theorem PlKeys.keys {es : Array MapEntry} (h : PlKeys es) : ∀ e ∈ es.toList, ∃ l, keyOf Tryz.prog 186 e.key = some l := fun e he => by
  obtain ⟨x, y, hk, h1, h2⟩ := h e he;rw [hk]; exact keyPl x y h1 h2
theorem run_lookup_pl (w : World) {kb : Nat} {es : Array MapEntry} {clock : Nat} (hb : w.heap[kb]? = some (.map es clock)) (hK : PlKeys es) (a b : ByteArray) (ha : a.size <= 9223372036854775807) (hb2 : b.size <= 9223372036854775807)
    {z : Value} (hz : (zeroValue 140).run Tryz.prog w = .ok z w) :
    (Instr.lookup 95 (.map (some kb)) (plV a b) true).run Tryz.prog w = .ok (.tuple #[z, .bool false]) w \/
    ∃ e ∈ es.toList, e.key = plV a b /\ (Instr.lookup 95 (.map (some kb)) (plV a b) true).run Tryz.prog w = .ok (.tuple #[e.val, .bool true]) w := by
  obtain ⟨l, hl⟩ := keyPl a b ha hb2;have hu := Tryz.underlying95;rcases lawPlace.find w hl es.toList hK.keys with ⟨h1, -⟩ | ⟨j, e, h1, h2, h3⟩
  · exact .inl (by simp [Instr.lookup, run_underlying hu, MapKept.run_getObj_map hb, lawPlace.check w _ hl, h1, hz, Result.andThen])
  · exact .inr ⟨e, List.mem_of_getElem? h2, h3, by simp [Instr.lookup, run_underlying hu, MapKept.run_getObj_map hb, lawPlace.check w _ hl, h1, Result.andThen]⟩
theorem run_update_pl (w : World) {kb : Nat} {es : Array MapEntry} {clock : Nat} (hb : w.heap[kb]? = some (.map es clock)) (hK : PlKeys es) (a b : ByteArray) (ha : a.size <= 9223372036854775807) (hb2 : b.size <= 9223372036854775807) (v : Value) :
    ∃ es' clock', (Instr.mapUpdate 95 (.map (some kb)) (plV a b) v).run Tryz.prog w = .ok () (ChangeMaps.setBlock w kb (.map es' clock')) /\ ∀ e ∈ es'.toList, e ∈ es.toList \/ (e.key = plV a b /\ e.val = v) := by
  obtain ⟨l, hl⟩ := keyPl a b ha hb2;have hu := Tryz.underlying95;rcases lawPlace.find w hl es.toList hK.keys with ⟨h1, -⟩ | ⟨j, e0, h1, h2, h3⟩
  · refine ⟨es.push ⟨plV a b, v, clock⟩, clock + 1, ?_, fun e he => ?_⟩
    · simp [Instr.mapUpdate, run_underlying hu, MapKept.run_getObj_map hb, lawPlace.check w false hl, h1, MapKept.run_setObj_map _ hb, Result.andThen, ChangeMaps.setBlock]
    · rw [Array.toList_push] at he
      rcases List.mem_append.1 he with h | h
      · exact .inl h
      · rw [List.mem_singleton.1 h]; exact .inr ⟨rfl, rfl⟩
  · have h2' : es[j]? = some e0 := by rw [<- Array.getElem?_toList]; exact h2
    refine ⟨es.modify j fun e => { e with key := plV a b, val := v }, clock, ?_, fun e he => ?_⟩
    · simp [Instr.mapUpdate, run_underlying hu, MapKept.run_getObj_map hb, lawPlace.check w false hl, h1, h2', h3, lawPlace.stays w hl, MapKept.run_setObj_map _ hb, Result.andThen, ChangeMaps.setBlock]
    · obtain ⟨i, hi⟩ := List.mem_iff_getElem?.1 he
      rw [Array.getElem?_toList, Array.getElem?_modify] at hi;by_cases hj : j = i
      · rw [if_pos hj] at hi
        cases he2 : es[i]? with
        | none => rw [he2] at hi; cases hi
        | some y => rw [he2] at hi; simp at hi; rw [<- hi]; exact .inr ⟨rfl, rfl⟩
      · rw [if_neg hj] at hi
        exact .inl (List.mem_of_getElem? (by rw [Array.getElem?_toList]; exact hi))
section
variable {ops : Array Oper} {rest : List Oper} {o : Oper} {act : Act} {Q : Exit -> Act -> World -> Prop}
theorem wpList_lookup_pl (w : World) (hg : o.guard = none) (m x : Operand) (hop : o.op = Op.lookup 95 m x true) {kb : Nat} {es : Array MapEntry} {clock : Nat} (hb : w.heap[kb]? = some (.map es clock)) (hK : PlKeys es)
    (hm : act.eval m = .map (some kb)) (a b : ByteArray) (hx : act.eval x = plV a b) (ha : a.size <= 9223372036854775807) (hb2 : b.size <= 9223372036854775807) {z : Value} (hz : (zeroValue 140).run Tryz.prog w = .ok z w)
    (h0 : wpList Tryz.prog ops Q rest (act.put o.dst (.tuple #[z, .bool false])) w) (h1 : ∀ e ∈ es.toList, e.key = plV a b -> wpList Tryz.prog ops Q rest (act.put o.dst (.tuple #[e.val, .bool true])) w) :
    wpList Tryz.prog ops Q (o :: rest) act w := by
  refine wpList_plain hg fun K' hK' => ?_
  unfold Oper.wp
  rcases run_lookup_pl w hb hK a b ha hb2 hz with hrun | ⟨e, he, hk, hrun⟩
  · simp [execOp, hop, hm, hx, hrun, Result.andThen]
    exact hK' _ _ h0
  · simp [execOp, hop, hm, hx, hrun, Result.andThen]
    exact hK' _ _ (h1 e he hk)
theorem wpList_update_pl (w : World) (hg : o.guard = none) (m x v : Operand) (hop : o.op = Op.mapUpdate 95 m x v) {kb : Nat} {es : Array MapEntry} {clock : Nat} (hb : w.heap[kb]? = some (.map es clock)) (hK : PlKeys es)
    (hm : act.eval m = .map (some kb)) (a b : ByteArray) (val : Value) (hx : act.eval x = plV a b) (hv : act.eval v = val) (ha : a.size <= 9223372036854775807) (hb2 : b.size <= 9223372036854775807)
    (h : ∀ es' clock', (∀ e ∈ es'.toList, e ∈ es.toList \/ (e.key = plV a b /\ e.val = val)) -> wpList Tryz.prog ops Q rest (act.put o.dst undef) (ChangeMaps.setBlock w kb (.map es' clock'))) :
    wpList Tryz.prog ops Q (o :: rest) act w := by
  refine wpList_plain hg fun K' hK' => ?_
  obtain ⟨es', clock', hrun, hes⟩ := run_update_pl w hb hK a b ha hb2 val;unfold Oper.wp
  simp [execOp, hop, hm, hx, hv, hrun, Result.andThen];exact hK' _ _ (h es' clock' hes)
end
end Go.Proofs.YtcdmgcgjonndpaaGreatDoor
