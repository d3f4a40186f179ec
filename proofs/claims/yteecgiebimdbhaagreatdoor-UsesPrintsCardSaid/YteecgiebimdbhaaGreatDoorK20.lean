/-
  Several texts in one.
-/
import Derived.Test.YteecgiebimdbhaaGreatDoorK19
set_option maxRecDepth 100000
set_option maxHeartbeats 8000000
namespace Go.Proofs.YteecgiebimdbhaaGreatDoor
open Go Go.RowKit Go.Shelf
open Go.Sort Go.Maps
open M
def zIf : If := ⟨⟨#[]⟩, 0, ⟨#[]⟩, [], []⟩
def zTy : Ty := .mk 0 ⟨#[]⟩ 0 ⟨#[]⟩ ⟨#[]⟩ [] []
def gotI (env : List If) (x : Im) : If := match findI env x.pkg x.major x.mod with | none => zIf | some k => (env[k]?).getD zIf
def gotT (l : List Nm) (s : ByteArray) : Ty := match ofI l s with | none => zTy | some k => ((l[k]?).map (·.typ)).getD zTy
theorem gotI_no {env : List If} {x : Im} (h : findI env x.pkg x.major x.mod = none) : gotI env x = zIf := by unfold gotI; rw [h]
theorem gotI_at {env : List If} {x : Im} {k : Nat} {y : If} (h : findI env x.pkg x.major x.mod = some k) (hy : env[k]? = some y) : gotI env x = y := by unfold gotI; rw [h]; simp only []; rw [hy]; rfl
theorem gotT_no {l : List Nm} {s : ByteArray} (h : ofI l s = none) : gotT l s = zTy := by unfold gotT; rw [h]
theorem gotT_at {l : List Nm} {s : ByteArray} {k : Nat} {y : Nm} (h : ofI l s = some k) (hy : l[k]? = some y) : gotT l s = y.typ := by unfold gotT; rw [h]; simp only []; rw [hy]; rfl
theorem ifSize : (Tryz.prog.info? 50).map (·.size) = some 5 := by kernel_rfl
theorem ifOne {p d : ByteArray} {m : Int} {A B : Option Addr} {n c k e : Nat} : (#[.string p, .int .i64 m, .string d, .slice A n c, .slice B k e] : Array Value).all (·.oneCell') = true := Array.all_eq_true_iff_forall_mem.2 (fun v hv => by simp at hv; rcases hv with rfl | rfl | rfl | rfl | rfl <;> rfl)
theorem cell5 {w : World} {b : Nat} {v0 v1 v2 v3 v4 : Value} {T : TypeId} {fr : Nat × Nat} (h : w.heap[b]? = some (.cells #[v0, v1, v2, v3, v4] T fr)) : ∀ i v, ([v0, v1, v2, v3, v4] : List Value)[i]? = some v -> w.cell? ⟨b, i, none⟩ = some v := fun i v hv => by
 rw [cZ h, <- hv, <- List.getElem?_toArray]
theorem zero_if (w : World) : ifE w [.string ⟨#[]⟩, .int .i64 0, .string ⟨#[]⟩, .slice none 0 0, .slice none 0 0] zIf :=
 ⟨none, 0, none, 0, rfl, by decide, by decide, by decide, by decide, fun i x h => by simp [zIf] at h, fun i x h => by simp [zIf] at h⟩
def FiOut (w0 w : World) (env : List If) (x : Im) (e : Ending) (w' : World) : Prop :=
 ∃ l : List Value, e = .returned (.tuple #[.agg l.toArray, .bool (findI env x.pkg x.major x.mod).isSome]) /\ (∀ wx, Below w0.heap.size w0 wx -> ifE wx l (gotI env x)) /\ Below w.heap.size w w'
def OfOut (w0 w : World) (L : List Nm) (s : ByteArray) (e : Ending) (w' : World) : Prop :=
 ∃ l : List Value, e = .returned (.tuple #[.agg l.toArray, .bool (ofI L s).isSome]) /\ (∀ wx, Below w0.heap.size w0 wx -> TyAt wx l (gotT L s)) /\ Below w.heap.size w w'
theorem idx_ltI {α : Type} {p : α -> Bool} {l : List α} {k : Nat} (h : l.findIdx? p = some k) : k < l.length := by
 rw [List.findIdx?_eq_some_iff_getElem] at h
 exact h.1
def zIm : Im := ⟨⟨#[]⟩, 0, ⟨#[]⟩, ⟨#[]⟩⟩
def zNm : Nm := ⟨⟨#[]⟩, zTy⟩
def gotM (l : List Im) (s : ByteArray) : Im := match l.findIdx? (isAs s) with | none => zIm | some k => (l[k]?).getD zIm
def gotN (l : List Nm) (s : ByteArray) : Nm := match ofI l s with | none => zNm | some k => (l[k]?).getD zNm
theorem gotM_no {l : List Im} {s : ByteArray} (h : l.findIdx? (isAs s) = none) : gotM l s = zIm := by unfold gotM; rw [h]
theorem gotM_at {l : List Im} {s : ByteArray} {k : Nat} {y : Im} (h : l.findIdx? (isAs s) = some k) (hy : l[k]? = some y) : gotM l s = y := by unfold gotM; rw [h]; simp only []; rw [hy]; rfl
theorem gotN_no {l : List Nm} {s : ByteArray} (h : ofI l s = none) : gotN l s = zNm := by unfold gotN; rw [h]
theorem gotN_at {l : List Nm} {s : ByteArray} {k : Nat} {y : Nm} (h : ofI l s = some k) (hy : l[k]? = some y) : gotN l s = y := by unfold gotN; rw [h]; simp only []; rw [hy]; rfl
theorem gotN_typ (l : List Nm) (s : ByteArray) : (gotN l s).typ = gotT l s := by
 unfold gotN gotT
 cases ofI l s with
 | none => rfl
 | some k =>
  show ((l[k]?).getD zNm).typ = ((l[k]?).map (·.typ)).getD zTy
  cases l[k]? <;> rfl
theorem zero_nm (w : World) : nmE w [.string ⟨#[]⟩, .int .i64 0, .string ⟨#[]⟩, .int .i64 0, .string ⟨#[]⟩, .string ⟨#[]⟩, .slice none 0 0, .slice none 0 0] zNm := ⟨by decide, _, rfl, zero_at w⟩
def NmOut (w0 w : World) (L : List Nm) (s : ByteArray) (e : Ending) (w' : World) : Prop :=
 ∃ l : List Value, e = .returned (.tuple #[.agg l.toArray, .bool (ofI L s).isSome]) /\ (∀ wx, Below w0.heap.size w0 wx -> nmE wx l (gotN L s)) /\ Below w.heap.size w w'
def LkIm (w : World) (L : List Im) (s : ByteArray) (e : Ending) (w' : World) : Prop :=
 e = .returned (.tuple #[.agg #[.string (gotM L s).pkg, .int .i64 (gotM L s).major, .string (gotM L s).mod, .string (gotM L s).asn], .bool (L.findIdx? (isAs s)).isSome]) /\ Below w.heap.size w w'
theorem nmSizeI : (Tryz.prog.info? 57).map (·.size) = some 8 := by kernel_rfl
theorem nmOneI {s : ByteArray} {k m : Int} {p d n : ByteArray} {A5 A6 : Option Addr} {n5 c5 n6 c6 : Nat} : (#[.string s, .int .i64 k, .string p, .int .i64 m, .string d, .string n, .slice A5 n5 c5, .slice A6 n6 c6] : Array Value).all (·.oneCell') = true := Array.all_eq_true_iff_forall_mem.2 (fun v hv => by simp at hv; rcases hv with rfl | rfl | rfl | rfl | rfl | rfl | rfl | rfl <;> rfl)
theorem cell8I {w : World} {b : Nat} {v0 v1 v2 v3 v4 v5 v6 v7 : Value} {T : TypeId} {fr : Nat × Nat} (h : w.heap[b]? = some (.cells #[v0, v1, v2, v3, v4, v5, v6, v7] T fr)) : ∀ i v, ([v0, v1, v2, v3, v4, v5, v6, v7] : List Value)[i]? = some v -> w.cell? ⟨b, i, none⟩ = some v := fun i v hv => by
 rw [cZ h, <- hv, <- List.getElem?_toArray]
theorem impSizeI : (Tryz.prog.info? 71).map (·.size) = some 4 := by kernel_rfl
theorem impOneI {a c d : ByteArray} {b : Int} : (#[.string a, .int .i64 b, .string c, .string d] : Array Value).all (·.oneCell') = true := Array.all_eq_true_iff_forall_mem.2 (fun v hv => by simp at hv; rcases hv with rfl | rfl | rfl | rfl <;> rfl)
theorem cell4I {w : World} {b : Nat} {v0 v1 v2 v3 : Value} {T : TypeId} {fr : Nat × Nat} (h : w.heap[b]? = some (.cells #[v0, v1, v2, v3] T fr)) : ∀ i v, ([v0, v1, v2, v3] : List Value)[i]? = some v -> w.cell? ⟨b, i, none⟩ = some v := fun i v hv => by
 rw [cZ h, <- hv, <- List.getElem?_toArray]
theorem firstI_any (A : Option Addr) (c : Nat) (env : List If) (x : Im) (xb : Nat) (w0 w : World) (h : RowIn ifR w0 A env) (hw : Below w0.heap.size w0 w) (hl : env.length <= 9223372036854775807) (hx : w.heap[xb]? = some (.cells #[.string x.pkg, .int .i64 x.major, .string x.mod, .string x.asn] 71 (0, 0))) :
  Calls Tryz.prog 128 #[.slice A env.length c, .func (.func 129) #[] #[.pointer (some ⟨xb, 0, none⟩)]] w (FiOut w0 w env x) := by
 have HE := hZ h
 have HW0 := hZ hw
 obtain ⟨W2, hW2⟩ : ∃ W2, W2 = w.alloc (.cells #[.string ⟨#[]⟩, .int .i64 0, .string ⟨#[]⟩, .slice none 0 0, .slice none 0 0] 50) := ⟨_, rfl⟩
 have B2 : Below w.heap.size w W2 := by rw [hW2]; exact below_new (Below.refl _ _) _
 have O1 : W2.heap[w.heap.size]? = some (.cells #[.string ⟨#[]⟩, .int .i64 0, .string ⟨#[]⟩, .slice none 0 0, .slice none 0 0] 50 (0, 0)) := by rw [hW2]; exact heap_alloc_new w _
 have hl2 : w.heap.size < W2.heap.size := by rw [hW2]; simp
 have IX := hZ (pIf_index A c env x xb W2 ((h.below hw).below B2) hl ((B2.block _ (Array.getElem?_eq_some_iff.1 hx).1).trans hx))
 have HB0 := hZ B2
 have HO1 := hZ O1
 have HW := hZ hW2
 obtain ⟨J, hJ⟩ : ∃ J, J = optN (findI env x.pkg x.major x.mod) := ⟨_, rfl⟩
 have HJ := hZ hJ
 have EJ : optN (env.findIdx? (isIf x.pkg x.major x.mod)) = J := hJ.symm
 rw [EJ] at IX
 obtain ⟨n, hn⟩ : ∃ n, n = env.length := ⟨_, rfl⟩
 have HN := hZ hn
 rw [<- hn] at hl IX ⊢
 clear h hw hx hW2 B2 O1 hJ EJ hn
 go_enter Tryz.func128, Tryz.ntmps128
 go_upto_region 1 with fail
 rw [<- HW.out]
 clear HW
 go_wp2_with fail
 refine IX.out.mono ?_; rintro e w2 ⟨rfl, hb2⟩
 have HB2 : Hid (Below w.heap.size w w2) := hZ (below_over HB0.out hb2)
 have hl3 := Nat.lt_of_lt_of_le hl2 hb2.size
 have X5 := (hb2.block _ hl2).trans HO1.out
 have HX5 := hZ X5
 clear hb2 IX
 cases hk : findI env x.pkg x.major x.mod with
 | none =>
  obtain rfl : J = -1 := by rw [HJ.out, hk]; rfl
  obtain ⟨w3, hw3⟩ : ∃ w3, w3 = w2.alloc (.cells #[.string ⟨#[]⟩, .int .i64 0, .string ⟨#[]⟩, .slice none 0 0, .slice none 0 0] 50) := ⟨_, rfl⟩;have B3 : Below w2.heap.size w2 w3 := by rw [hw3]; exact below_new (Below.refl _ _) _
  have Z3 : w3.heap[w2.heap.size]? = some (.cells #[.string ⟨#[]⟩, .int .i64 0, .string ⟨#[]⟩, .slice none 0 0, .slice none 0 0] 50 (0, 0)) := by rw [hw3]; exact heap_alloc_new w2 _
  have X5 := (B3.block _ hl3).trans X5;have HX5 := hZ X5;have FIN : Hid (FiOut w0 w env x (.returned (.tuple #[.agg #[.string ⟨#[]⟩, .int .i64 0, .string ⟨#[]⟩, .slice none 0 0, .slice none 0 0], .bool false])) (w3.setRow w.heap.size #[.string ⟨#[]⟩, .int .i64 0, .string ⟨#[]⟩, .slice none 0 0, .slice none 0 0])) := hZ (by rw [hw3]; exact ⟨[.string ⟨#[]⟩, .int .i64 0, .string ⟨#[]⟩, .slice none 0 0, .slice none 0 0], by rw [hk]; rfl, by rw [gotI_no hk]; exact fun wx _ => zero_if _, setRow_below (below_new HB2.out _) (Nat.le_refl _) _⟩);have HW3 := hZ hw3;obtain ⟨z0, z1, z2, z3, z4⟩ := cq5 Z3;simp at z0 z1 z2 z3 z4;clear hk hw3 B3 Z3;go_upto_region 4 with fail
  rw [<- HW3.out];clear HW3;go_wp2_with (first | ((with_reducible refine wpList_putRow 50 (w.heap.size) #[.string ⟨#[]⟩, .int .i64 0, .string ⟨#[]⟩, .slice none 0 0, .slice none 0 0] _ _ X5 ?_ ?_ ?_ ?_ ?_ ?_); exact ifSize; rfl; exact ifOne; iterate 2 (focus (first | (go_simp; done) | rfl))))
  exact ret_agg (fn := Tryz.f128) (vs := [.string ⟨#[]⟩, .int .i64 0, .string ⟨#[]⟩, .slice none 0 0, .slice none 0 0]) (b := w.heap.size) rfl rfl rfl Tryz.underlying50 (by kernel_rfl) (cell5 (setRow_heap w3 w.heap.size _ _ _ _ HX5.out)) rfl FIN.out
 | some k =>
  obtain rfl : J = (k : Int) := by rw [HJ.out, hk]; rfl
  have hkl := findI_lt hk;obtain ⟨y, hy⟩ : ∃ y, env[k]? = some y := ⟨_, List.getElem?_eq_getElem hkl⟩;obtain ⟨g, o, At, ct, Av, cv, rfl, hg, a0, a1, a2, a3, a4, z0, z1, z2, z3, hT, hVL⟩ := HE.out.ifc hy;have c0 := ((below_over HW0.out HB2.out).cell (p := ⟨g, _, none⟩) hg).trans a0;have c1 := ((below_over HW0.out HB2.out).cell (p := ⟨g, _, none⟩) hg).trans a1;have c2 := ((below_over HW0.out HB2.out).cell (p := ⟨g, _, none⟩) hg).trans a2;have c3 := ((below_over HW0.out HB2.out).cell (p := ⟨g, _, none⟩) hg).trans a3;have c4 := ((below_over HW0.out HB2.out).cell (p := ⟨g, _, none⟩) hg).trans a4;have FIN : Hid (FiOut w0 w env x (.returned (.tuple #[.agg #[.string y.pkg, .int .i64 y.major, .string y.mod, .slice At y.types.length ct, .slice Av y.vals.length cv], .bool true])) (w2.setRow w.heap.size #[.string y.pkg, .int .i64 y.major, .string y.mod, .slice At y.types.length ct, .slice Av y.vals.length cv])) := hZ ⟨[.string y.pkg, .int .i64 y.major, .string y.mod, .slice At y.types.length ct, .slice Av y.vals.length cv], by rw [hk]; rfl, by rw [gotI_at hk hy]; exact fun wx hb => ⟨At, ct, Av, cv, rfl, z0, z1, z2, z3, hT.below hb, hVL.below hb⟩, setRow_below HB2.out (Nat.le_refl _) _⟩;rw [<- HN.out] at hkl;have hk0 : (0 : Int) <= k := by omega
  have hk1 : (k : Int) < n := by omega
  have hk2 : ¬ (k : Int) < 0 := by omega
  clear hk hy hT hVL a0 a1 a2 a3 a4;go_upto_region 5 with fail
  go_wp2_with (first | ((with_reducible refine wpList_putRow 50 (w.heap.size) #[.string y.pkg, .int .i64 y.major, .string y.mod, .slice At y.types.length ct, .slice Av y.vals.length cv] _ _ X5 ?_ ?_ ?_ ?_ ?_ ?_); exact ifSize; rfl; exact ifOne; iterate 2 (focus (first | (go_simp; done) | rfl))))
  exact ret_agg (fn := Tryz.f128) (vs := [.string y.pkg, .int .i64 y.major, .string y.mod, .slice At y.types.length ct, .slice Av y.vals.length cv]) (b := w.heap.size) rfl rfl rfl Tryz.underlying50 (by kernel_rfl) (cell5 (setRow_heap w2 w.heap.size _ _ _ _ HX5.out)) rfl FIN.out
theorem firstN_any (A : Option Addr) (c : Nat) (L : List Nm) (s : ByteArray) (xb : Nat) (w0 w : World) (h : RowIn nmR w0 A L) (hw : Below w0.heap.size w0 w) (hl : L.length <= 9223372036854775807) (hx : w.heap[xb]? = some (.cells #[.string s] 9 (0, 0))) :
  Calls Tryz.prog 180 #[.slice A L.length c, .func (.func 181) #[] #[.pointer (some ⟨xb, 0, none⟩)]] w (NmOut w0 w L s) := by
 have HE := hZ h
 have HW0 := hZ hw
 obtain ⟨W2, hW2⟩ : ∃ W2, W2 = w.alloc (.cells #[.string ⟨#[]⟩, .int .i64 0, .string ⟨#[]⟩, .int .i64 0, .string ⟨#[]⟩, .string ⟨#[]⟩, .slice none 0 0, .slice none 0 0] 57) := ⟨_, rfl⟩
 have B2 : Below w.heap.size w W2 := by rw [hW2]; exact below_new (Below.refl _ _) _
 have O1 : W2.heap[w.heap.size]? = some (.cells #[.string ⟨#[]⟩, .int .i64 0, .string ⟨#[]⟩, .int .i64 0, .string ⟨#[]⟩, .string ⟨#[]⟩, .slice none 0 0, .slice none 0 0] 57 (0, 0)) := by rw [hW2]; exact heap_alloc_new w _
 have hl2 : w.heap.size < W2.heap.size := by rw [hW2]; simp
 have IX := hZ (pNm_index A c L s xb W2 ((h.below hw).below B2) hl ((B2.block _ (Array.getElem?_eq_some_iff.1 hx).1).trans hx))
 have HB0 := hZ B2
 have HO1 := hZ O1
 have HW := hZ hW2
 obtain ⟨J, hJ⟩ : ∃ J, J = optN (ofI L s) := ⟨_, rfl⟩
 have HJ := hZ hJ
 have EJ : optN (L.findIdx? (isNm s)) = J := hJ.symm
 rw [EJ] at IX
 obtain ⟨n, hn⟩ : ∃ n, n = L.length := ⟨_, rfl⟩
 have HN := hZ hn
 rw [<- hn] at hl IX ⊢
 clear h hw hx hW2 B2 O1 hJ EJ hn
 go_enter Tryz.func180, Tryz.ntmps180
 go_upto_region 1 with fail
 rw [<- HW.out]
 clear HW
 go_wp2_with fail
 refine IX.out.mono ?_; rintro e w2 ⟨rfl, hb2⟩
 have HB2 : Hid (Below w.heap.size w w2) := hZ (below_over HB0.out hb2)
 have hl3 := Nat.lt_of_lt_of_le hl2 hb2.size
 have X5 := (hb2.block _ hl2).trans HO1.out
 have HX5 := hZ X5
 clear hb2 IX
 cases hk : ofI L s with
 | none =>
  obtain rfl : J = -1 := by rw [HJ.out, hk]; rfl
  obtain ⟨w3, hw3⟩ : ∃ w3, w3 = w2.alloc (.cells #[.string ⟨#[]⟩, .int .i64 0, .string ⟨#[]⟩, .int .i64 0, .string ⟨#[]⟩, .string ⟨#[]⟩, .slice none 0 0, .slice none 0 0] 57) := ⟨_, rfl⟩;have B3 : Below w2.heap.size w2 w3 := by rw [hw3]; exact below_new (Below.refl _ _) _
  have Z3 : w3.heap[w2.heap.size]? = some (.cells #[.string ⟨#[]⟩, .int .i64 0, .string ⟨#[]⟩, .int .i64 0, .string ⟨#[]⟩, .string ⟨#[]⟩, .slice none 0 0, .slice none 0 0] 57 (0, 0)) := by rw [hw3]; exact heap_alloc_new w2 _
  have X5 := (B3.block _ hl3).trans X5;have HX5 := hZ X5;have FIN : Hid (NmOut w0 w L s (.returned (.tuple #[.agg #[.string ⟨#[]⟩, .int .i64 0, .string ⟨#[]⟩, .int .i64 0, .string ⟨#[]⟩, .string ⟨#[]⟩, .slice none 0 0, .slice none 0 0], .bool false])) (w3.setRow w.heap.size #[.string ⟨#[]⟩, .int .i64 0, .string ⟨#[]⟩, .int .i64 0, .string ⟨#[]⟩, .string ⟨#[]⟩, .slice none 0 0, .slice none 0 0])) := hZ (by rw [hw3]; exact ⟨[.string ⟨#[]⟩, .int .i64 0, .string ⟨#[]⟩, .int .i64 0, .string ⟨#[]⟩, .string ⟨#[]⟩, .slice none 0 0, .slice none 0 0], by rw [hk]; rfl, by rw [gotN_no hk]; exact fun wx _ => zero_nm _, setRow_below (below_new HB2.out _) (Nat.le_refl _) _⟩);have HW3 := hZ hw3;obtain ⟨z0, z1, z2, z3, z4, z5, z6, z7⟩ := cq8 Z3;simp at z0 z1 z2 z3 z4 z5 z6 z7;clear hk hw3 B3 Z3;go_upto_region 4 with fail
  rw [<- HW3.out];clear HW3;go_wp2_with (first | ((with_reducible refine wpList_putRow 57 (w.heap.size) #[.string ⟨#[]⟩, .int .i64 0, .string ⟨#[]⟩, .int .i64 0, .string ⟨#[]⟩, .string ⟨#[]⟩, .slice none 0 0, .slice none 0 0] _ _ X5 ?_ ?_ ?_ ?_ ?_ ?_); exact nmSizeI; rfl; exact nmOneI; iterate 2 (focus (first | (go_simp; done) | rfl))))
  exact ret_agg (fn := Tryz.f180) (vs := [.string ⟨#[]⟩, .int .i64 0, .string ⟨#[]⟩, .int .i64 0, .string ⟨#[]⟩, .string ⟨#[]⟩, .slice none 0 0, .slice none 0 0]) (b := w.heap.size) rfl rfl rfl Tryz.underlying57 (by kernel_rfl) (cell8I (setRow_heap w3 w.heap.size _ _ _ _ HX5.out)) rfl FIN.out
 | some k =>
  obtain rfl : J = (k : Int) := by rw [HJ.out, hk]; rfl
  have hkl := ofI_lt hk;obtain ⟨y, hy⟩ : ∃ y, L[k]? = some y := ⟨_, List.getElem?_eq_getElem hkl⟩;obtain ⟨g, o, Bn, cB, Bs, dB, rfl, hg, a0, a1, a2, a3, a4, a5, a6, a7, hT, hz⟩ := HE.out.nm hy;have c0 := ((below_over HW0.out HB2.out).cell (p := ⟨g, _, none⟩) hg).trans a0;have c1 := ((below_over HW0.out HB2.out).cell (p := ⟨g, _, none⟩) hg).trans a1;have c2 := ((below_over HW0.out HB2.out).cell (p := ⟨g, _, none⟩) hg).trans a2;have c3 := ((below_over HW0.out HB2.out).cell (p := ⟨g, _, none⟩) hg).trans a3;have c4 := ((below_over HW0.out HB2.out).cell (p := ⟨g, _, none⟩) hg).trans a4;have c5 := ((below_over HW0.out HB2.out).cell (p := ⟨g, _, none⟩) hg).trans a5;have c6 := ((below_over HW0.out HB2.out).cell (p := ⟨g, _, none⟩) hg).trans a6;have c7 := ((below_over HW0.out HB2.out).cell (p := ⟨g, _, none⟩) hg).trans a7;have FIN : Hid (NmOut w0 w L s (.returned (.tuple #[.agg #[.string y.name, .int .i64 y.typ.kind, .string y.typ.pkg, .int .i64 y.typ.major, .string y.typ.mod, .string y.typ.name, .slice Bn y.typ.names.length cB, .slice Bs y.typ.subs.length dB], .bool true])) (w2.setRow w.heap.size #[.string y.name, .int .i64 y.typ.kind, .string y.typ.pkg, .int .i64 y.typ.major, .string y.typ.mod, .string y.typ.name, .slice Bn y.typ.names.length cB, .slice Bs y.typ.subs.length dB])) := hZ ⟨[.string y.name, .int .i64 y.typ.kind, .string y.typ.pkg, .int .i64 y.typ.major, .string y.typ.mod, .string y.typ.name, .slice Bn y.typ.names.length cB, .slice Bs y.typ.subs.length dB], by rw [hk]; rfl, by rw [gotN_at hk hy]; exact fun wx hb => ⟨hz, _, rfl, hT.keep hb⟩, setRow_below HB2.out (Nat.le_refl _) _⟩;rw [<- HN.out] at hkl;have hk0 : (0 : Int) <= k := by omega
  have hk1 : (k : Int) < n := by omega
  have hk2 : ¬ (k : Int) < 0 := by omega
  clear hk hy hT hz a0 a1 a2 a3 a4 a5 a6 a7;go_upto_region 5 with fail
  go_wp2_with (first | ((with_reducible refine wpList_putRow 57 (w.heap.size) #[.string y.name, .int .i64 y.typ.kind, .string y.typ.pkg, .int .i64 y.typ.major, .string y.typ.mod, .string y.typ.name, .slice Bn y.typ.names.length cB, .slice Bs y.typ.subs.length dB] _ _ X5 ?_ ?_ ?_ ?_ ?_ ?_); exact nmSizeI; rfl; exact nmOneI; iterate 2 (focus (first | (go_simp; done) | rfl))))
  exact ret_agg (fn := Tryz.f180) (vs := [.string y.name, .int .i64 y.typ.kind, .string y.typ.pkg, .int .i64 y.typ.major, .string y.typ.mod, .string y.typ.name, .slice Bn y.typ.names.length cB, .slice Bs y.typ.subs.length dB]) (b := w.heap.size) rfl rfl rfl Tryz.underlying57 (by kernel_rfl) (cell8I (setRow_heap w2 w.heap.size _ _ _ _ HX5.out)) rfl FIN.out
theorem firstA_any (A : Option Addr) (c : Nat) (L : List Im) (s : ByteArray) (xb : Nat) (w0 w : World) (h : RowIn imR w0 A L) (hw : Below w0.heap.size w0 w) (hl : L.length <= 9223372036854775807) (hx : w.heap[xb]? = some (.cells #[.string s] 9 (0, 0))) :
  Calls Tryz.prog 125 #[.slice A L.length c, .func (.func 126) #[] #[.pointer (some ⟨xb, 0, none⟩)]] w (LkIm w L s) := by
 have HE := hZ h
 have HW0 := hZ hw
 obtain ⟨W2, hW2⟩ : ∃ W2, W2 = w.alloc (.cells #[.string ⟨#[]⟩, .int .i64 0, .string ⟨#[]⟩, .string ⟨#[]⟩] 71) := ⟨_, rfl⟩
 have B2 : Below w.heap.size w W2 := by rw [hW2]; exact below_new (Below.refl _ _) _
 have O1 : W2.heap[w.heap.size]? = some (.cells #[.string ⟨#[]⟩, .int .i64 0, .string ⟨#[]⟩, .string ⟨#[]⟩] 71 (0, 0)) := by rw [hW2]; exact heap_alloc_new w _
 have hl2 : w.heap.size < W2.heap.size := by rw [hW2]; simp
 have IX := hZ (pAs_index A c L s xb W2 ((h.below hw).below B2) hl ((B2.block _ (Array.getElem?_eq_some_iff.1 hx).1).trans hx))
 have HB0 := hZ B2
 have HO1 := hZ O1
 have HW := hZ hW2
 obtain ⟨J, hJ⟩ : ∃ J, J = optN (L.findIdx? (isAs s)) := ⟨_, rfl⟩
 have HJ := hZ hJ
 have EJ : optN (L.findIdx? (isAs s)) = J := hJ.symm
 rw [EJ] at IX
 obtain ⟨n, hn⟩ : ∃ n, n = L.length := ⟨_, rfl⟩
 have HN := hZ hn
 rw [<- hn] at hl IX ⊢
 clear h hw hx hW2 B2 O1 hJ EJ hn
 go_enter Tryz.func125, Tryz.ntmps125
 go_upto_region 1 with fail
 rw [<- HW.out]
 clear HW
 go_wp2_with fail
 refine IX.out.mono ?_; rintro e w2 ⟨rfl, hb2⟩
 have HB2 : Hid (Below w.heap.size w w2) := hZ (below_over HB0.out hb2)
 have hl3 := Nat.lt_of_lt_of_le hl2 hb2.size
 have X5 := (hb2.block _ hl2).trans HO1.out
 have HX5 := hZ X5
 clear hb2 IX
 cases hk : L.findIdx? (isAs s) with
 | none =>
  obtain rfl : J = -1 := by rw [HJ.out, hk]; rfl
  obtain ⟨w3, hw3⟩ : ∃ w3, w3 = w2.alloc (.cells #[.string ⟨#[]⟩, .int .i64 0, .string ⟨#[]⟩, .string ⟨#[]⟩] 71) := ⟨_, rfl⟩;have B3 : Below w2.heap.size w2 w3 := by rw [hw3]; exact below_new (Below.refl _ _) _
  have Z3 : w3.heap[w2.heap.size]? = some (.cells #[.string ⟨#[]⟩, .int .i64 0, .string ⟨#[]⟩, .string ⟨#[]⟩] 71 (0, 0)) := by rw [hw3]; exact heap_alloc_new w2 _
  have X5 := (B3.block _ hl3).trans X5;have HX5 := hZ X5;have FIN : Hid (LkIm w L s (.returned (.tuple #[.agg #[.string ⟨#[]⟩, .int .i64 0, .string ⟨#[]⟩, .string ⟨#[]⟩], .bool false])) (w3.setRow w.heap.size #[.string ⟨#[]⟩, .int .i64 0, .string ⟨#[]⟩, .string ⟨#[]⟩])) := hZ (by rw [hw3]; exact ⟨by rw [gotM_no hk, hk]; rfl, setRow_below (below_new HB2.out _) (Nat.le_refl _) _⟩);have HW3 := hZ hw3;obtain ⟨z0, z1, z2, z3⟩ := cq4 Z3;simp at z0 z1 z2 z3;clear hk hw3 B3 Z3;go_upto_region 4 with fail
  rw [<- HW3.out];clear HW3;go_wp2_with (first | ((with_reducible refine wpList_putRow 71 (w.heap.size) #[.string ⟨#[]⟩, .int .i64 0, .string ⟨#[]⟩, .string ⟨#[]⟩] _ _ X5 ?_ ?_ ?_ ?_ ?_ ?_); exact impSizeI; rfl; exact impOneI; iterate 2 (focus (first | (go_simp; done) | rfl))))
  exact ret_agg (fn := Tryz.f125) (vs := [.string ⟨#[]⟩, .int .i64 0, .string ⟨#[]⟩, .string ⟨#[]⟩]) (b := w.heap.size) rfl rfl rfl Tryz.underlying71 (by kernel_rfl) (cell4I (setRow_heap w3 w.heap.size _ _ _ _ HX5.out)) rfl FIN.out
 | some k =>
  obtain rfl : J = (k : Int) := by rw [HJ.out, hk]; rfl
  have hkl := idx_ltI hk;obtain ⟨y, hy⟩ : ∃ y, L[k]? = some y := ⟨_, List.getElem?_eq_getElem hkl⟩;obtain ⟨g, o, rfl, hg, a0, a1, a2, a3, -⟩ := HE.out.im hy;have c0 := ((below_over HW0.out HB2.out).cell (p := ⟨g, _, none⟩) hg).trans a0;have c1 := ((below_over HW0.out HB2.out).cell (p := ⟨g, _, none⟩) hg).trans a1;have c2 := ((below_over HW0.out HB2.out).cell (p := ⟨g, _, none⟩) hg).trans a2;have c3 := ((below_over HW0.out HB2.out).cell (p := ⟨g, _, none⟩) hg).trans a3;have FIN : Hid (LkIm w L s (.returned (.tuple #[.agg #[.string y.pkg, .int .i64 y.major, .string y.mod, .string y.asn], .bool true])) (w2.setRow w.heap.size #[.string y.pkg, .int .i64 y.major, .string y.mod, .string y.asn])) := hZ ⟨by rw [gotM_at hk hy, hk]; rfl, setRow_below HB2.out (Nat.le_refl _) _⟩;rw [<- HN.out] at hkl;have hk0 : (0 : Int) <= k := by omega
  have hk1 : (k : Int) < n := by omega
  have hk2 : ¬ (k : Int) < 0 := by omega
  clear hk hy  a0 a1 a2 a3;go_upto_region 5 with fail
  go_wp2_with (first | ((with_reducible refine wpList_putRow 71 (w.heap.size) #[.string y.pkg, .int .i64 y.major, .string y.mod, .string y.asn] _ _ X5 ?_ ?_ ?_ ?_ ?_ ?_); exact impSizeI; rfl; exact impOneI; iterate 2 (focus (first | (go_simp; done) | rfl))))
  exact ret_agg (fn := Tryz.f125) (vs := [.string y.pkg, .int .i64 y.major, .string y.mod, .string y.asn]) (b := w.heap.size) rfl rfl rfl Tryz.underlying71 (by kernel_rfl) (cell4I (setRow_heap w2 w.heap.size _ _ _ _ HX5.out)) rfl FIN.out
theorem lkIface_any (A : Option Addr) (c : Nat) (env : List If) (x : Im) (w0 w : World) (h : RowIn ifR w0 A env) (hw : Below w0.heap.size w0 w) (hl : env.length <= 9223372036854775807) :
  Calls Tryz.prog 88 #[.slice A env.length c, .agg #[.string x.pkg, .int .i64 x.major, .string x.mod, .string x.asn]] w (FiOut w0 w env x) := by
 have HE := hZ h
 obtain ⟨W2, hW2, B2, O0, O1, hl2⟩ := two_boxes w #[.string x.pkg, .int .i64 x.major, .string x.mod, .string x.asn] #[.string ⟨#[]⟩, .int .i64 0, .string ⟨#[]⟩, .slice none 0 0, .slice none 0 0] 71 50
 have HB0 := hZ B2
 have HO1 := hZ O1
 have HW := hZ hW2
 have IX := hZ (firstI_any A c env x w.heap.size w0 W2 h (below_over hw B2) hl O0)
 clear h hw hW2 B2 O0 O1
 go_enter Tryz.func88, Tryz.ntmps88
 go_upto_region 1 with fail
 rw [<- HW.out]
 clear HW
 go_wp2_with (first | fail)
 refine IX.out.mono ?_; rintro e w2 ⟨l, rfl, hL, hb2⟩
 have HL := hZ hL
 obtain ⟨y, hy⟩ : ∃ y, y = gotI env x := ⟨_, rfl⟩
 have hL0 := hL w0 (Below.refl _ _)
 rw [<- hy] at hL0
 obtain ⟨At, ct, Av, cv, rfl, -⟩ := hL0
 obtain ⟨q, hq⟩ : ∃ q, (findI env x.pkg x.major x.mod).isSome = q := ⟨_, rfl⟩
 have X5 := (hb2.block _ hl2).trans HO1.out
 have HX5 := hZ X5
 have FIN : Hid (FiOut w0 w env x (.returned (.tuple #[.agg #[.string y.pkg, .int .i64 y.major, .string y.mod, .slice At y.types.length ct, .slice Av y.vals.length cv], .bool q])) (w2.setRow (w.heap.size + 1) #[.string y.pkg, .int .i64 y.major, .string y.mod, .slice At y.types.length ct, .slice Av y.vals.length cv])) := hZ ⟨_, by rw [hq], HL.out, setRow_below (below_over HB0.out hb2) (by omega) _⟩
 rw [hq]
 clear hL hy hb2 IX hq
 go_wp2_with (first | ((with_reducible refine wpList_putRow 50 (w.heap.size + 1) #[.string y.pkg, .int .i64 y.major, .string y.mod, .slice At y.types.length ct, .slice Av y.vals.length cv] _ _ X5 ?_ ?_ ?_ ?_ ?_ ?_); exact ifSize; rfl; exact ifOne; iterate 2 (focus (first | (go_simp; done) | rfl))))
 exact ret_agg (fn := Tryz.f88) (vs := [.string y.pkg, .int .i64 y.major, .string y.mod, .slice At y.types.length ct, .slice Av y.vals.length cv]) (b := w.heap.size + 1) rfl rfl rfl Tryz.underlying50 (by kernel_rfl) (cell5 (setRow_heap w2 (w.heap.size + 1) _ _ _ _ HX5.out)) rfl FIN.out
theorem lkImport_any (A : Option Addr) (c : Nat) (L : List Im) (s : ByteArray) (w0 w : World) (h : RowIn imR w0 A L) (hw : Below w0.heap.size w0 w) (hl : L.length <= 9223372036854775807) :
  Calls Tryz.prog 86 #[.slice A L.length c, .string s] w (LkIm w L s) := by
 have HE := hZ h
 obtain ⟨W2, hW2, B2, O0, O1, hl2⟩ := two_boxes w #[.string s] #[.string ⟨#[]⟩, .int .i64 0, .string ⟨#[]⟩, .string ⟨#[]⟩] 9 71
 have HB0 := hZ B2
 have HO1 := hZ O1
 have HW := hZ hW2
 have IX := hZ (firstA_any A c L s w.heap.size w0 W2 h (below_over hw B2) hl O0)
 clear h hw hW2 B2 O0 O1
 go_enter Tryz.func86, Tryz.ntmps86
 go_upto_region 1 with fail
 rw [<- HW.out]
 clear HW
 go_wp2_with (first | fail)
 refine IX.out.mono ?_; rintro e w2 ⟨rfl, hb2⟩
 obtain ⟨y, hy⟩ : ∃ y, y = gotM L s := ⟨_, rfl⟩
 obtain ⟨q, hq⟩ : ∃ q, (L.findIdx? (isAs s)).isSome = q := ⟨_, rfl⟩
 have X5 := (hb2.block _ hl2).trans HO1.out
 have HX5 := hZ X5
 have FIN : Hid (LkIm w L s (.returned (.tuple #[.agg #[.string y.pkg, .int .i64 y.major, .string y.mod, .string y.asn], .bool q])) (w2.setRow (w.heap.size + 1) #[.string y.pkg, .int .i64 y.major, .string y.mod, .string y.asn])) := hZ ⟨by rw [hq, hy], setRow_below (below_over HB0.out hb2) (by omega) _⟩
 rw [hq, <- hy]
 clear hy hb2 IX hq
 go_wp2_with (first | ((with_reducible refine wpList_putRow 71 (w.heap.size + 1) #[.string y.pkg, .int .i64 y.major, .string y.mod, .string y.asn] _ _ X5 ?_ ?_ ?_ ?_ ?_ ?_); exact impSizeI; rfl; exact impOneI; iterate 2 (focus (first | (go_simp; done) | rfl))))
 exact ret_agg (fn := Tryz.f86) (vs := [.string y.pkg, .int .i64 y.major, .string y.mod, .string y.asn]) (b := w.heap.size + 1) rfl rfl rfl Tryz.underlying71 (by kernel_rfl) (cell4I (setRow_heap w2 (w.heap.size + 1) _ _ _ _ HX5.out)) rfl FIN.out
theorem lkType_any (A : Option Addr) (c : Nat) (L : List Nm) (s : ByteArray) (w0 w : World) (h : RowIn nmR w0 A L) (hw : Below w0.heap.size w0 w) (hl : L.length <= 9223372036854775807) :
  Calls Tryz.prog 130 #[.slice A L.length c, .string s] w (OfOut w0 w L s) := by
 have HE := hZ h
 obtain ⟨W2, hW2, B2, O0, O1, hl2⟩ := two_boxes w #[.string s] #[.int .i64 0, .string ⟨#[]⟩, .int .i64 0, .string ⟨#[]⟩, .string ⟨#[]⟩, .slice none 0 0, .slice none 0 0] 9 55
 have HB0 := hZ B2
 have HO1 := hZ O1
 have HW := hZ hW2
 have IX := hZ (firstN_any A c L s w.heap.size w0 W2 h (below_over hw B2) hl O0)
 clear h hw hW2 B2 O0 O1
 go_enter Tryz.func130, Tryz.ntmps130
 go_upto_region 1 with fail
 rw [<- HW.out]
 clear HW
 go_wp2_with (first | fail)
 refine IX.out.mono ?_; rintro e w2 ⟨l, rfl, hL, hb2⟩
 obtain ⟨y, hy⟩ : ∃ y, y = gotN L s := ⟨_, rfl⟩
 rw [<- hy] at hL
 have hL0 := hL w0 (Below.refl _ _)
 obtain ⟨-, l7, rfl, hT0⟩ := hL0
 obtain ⟨Bn, cB, Bs, dB, rfl, -⟩ := hT0.parts
 have HT : Hid (∀ wx, Below w0.heap.size w0 wx -> TyAt wx [.int .i64 y.typ.kind, .string y.typ.pkg, .int .i64 y.typ.major, .string y.typ.mod, .string y.typ.name, .slice Bn y.typ.names.length cB, .slice Bs y.typ.subs.length dB] (gotT L s)) := hZ (fun wx hb => by
  obtain ⟨-, l7, e, hT⟩ := hL wx hb;simp only [List.cons.injEq, true_and] at e;rw [<- gotN_typ, <- hy, e];exact hT)
 obtain ⟨q, hq⟩ : ∃ q, (ofI L s).isSome = q := ⟨_, rfl⟩
 obtain ⟨w3, hw3⟩ : ∃ w3, w3 = w2.alloc (.cells #[.string y.name, .int .i64 y.typ.kind, .string y.typ.pkg, .int .i64 y.typ.major, .string y.typ.mod, .string y.typ.name, .slice Bn y.typ.names.length cB, .slice Bs y.typ.subs.length dB] 57) := ⟨_, rfl⟩
 have B3 : Below w2.heap.size w2 w3 := by rw [hw3]; exact below_new (Below.refl _ _) _
 have Z3 : w3.heap[w2.heap.size]? = some (.cells #[.string y.name, .int .i64 y.typ.kind, .string y.typ.pkg, .int .i64 y.typ.major, .string y.typ.mod, .string y.typ.name, .slice Bn y.typ.names.length cB, .slice Bs y.typ.subs.length dB] 57 (0, 0)) := by rw [hw3]; exact heap_alloc_new w2 _
 have hl3 := Nat.lt_of_lt_of_le hl2 hb2.size
 have X5 := (B3.block _ hl3).trans ((hb2.block _ hl2).trans HO1.out)
 have HX5 := hZ X5
 have FIN : Hid (OfOut w0 w L s (.returned (.tuple #[.agg #[.int .i64 y.typ.kind, .string y.typ.pkg, .int .i64 y.typ.major, .string y.typ.mod, .string y.typ.name, .slice Bn y.typ.names.length cB, .slice Bs y.typ.subs.length dB], .bool q])) (w3.setRow (w.heap.size + 1) #[.int .i64 y.typ.kind, .string y.typ.pkg, .int .i64 y.typ.major, .string y.typ.mod, .string y.typ.name, .slice Bn y.typ.names.length cB, .slice Bs y.typ.subs.length dB])) := hZ ⟨_, by rw [hq], HT.out, setRow_below (below_over HB0.out (below_over hb2 B3)) (by omega) _⟩
 obtain ⟨z0, z1, z2, z3, z4, z5, z6, z7⟩ := cq8 Z3
 simp at z0 z1 z2 z3 z4 z5 z6 z7
 have HW3 := hZ hw3
 rw [hq]
 clear hL hy hb2 IX hq hw3 B3 Z3 hT0 HT
 go_upto_region 2 with fail
 rw [<- HW3.out]
 clear HW3
 go_wp2_with (first | ((with_reducible refine wpList_putRow 55 (w.heap.size + 1) #[.int .i64 y.typ.kind, .string y.typ.pkg, .int .i64 y.typ.major, .string y.typ.mod, .string y.typ.name, .slice Bn y.typ.names.length cB, .slice Bs y.typ.subs.length dB] _ _ X5 ?_ ?_ ?_ ?_ ?_ ?_); exact tySize; rfl; exact tyOne; iterate 2 (focus (first | (go_simp; done) | rfl))))
 exact ret_agg (fn := Tryz.f130) (vs := [.int .i64 y.typ.kind, .string y.typ.pkg, .int .i64 y.typ.major, .string y.typ.mod, .string y.typ.name, .slice Bn y.typ.names.length cB, .slice Bs y.typ.subs.length dB]) (b := w.heap.size + 1) rfl rfl rfl Tryz.underlying55 (by kernel_rfl) (cell7 (setRow_heap w3 (w.heap.size + 1) _ _ _ _ HX5.out)) rfl FIN.out
def NsAt (w : World) (l : List Value) (m : Mo) (pkg : ByteArray) (major : Int) (env : List If) (kb : Nat) : Prop :=
  ∃ (Ai : Option Addr) (ci : Nat) (Ad : Option Addr) (cd : Nat) (Ae : Option Addr) (ce : Nat), l = [.string m.name, .slice Ai m.imps.length ci, .slice Ad m.decs.length cd, .string pkg, .int .i64 major, .slice Ae env.length ce, .map (some kb)] /\
    m.name.size <= 9223372036854775807 /\ m.imps.length <= 9223372036854775807 /\ m.decs.length <= 9223372036854775807 /\ pkg.size <= 9223372036854775807 /\ env.length <= 9223372036854775807 /\ RowIn imR w Ai m.imps /\ RowIn deR w Ad m.decs /\ RowIn ifR w Ae env
theorem NsAt.below {w w' : World} {l : List Value} {m : Mo} {pkg : ByteArray} {major : Int} {env : List If} {kb : Nat} (h : NsAt w l m pkg major env kb) (hb : Below w.heap.size w w') : NsAt w' l m pkg major env kb := by
  obtain ⟨Ai, ci, Ad, cd, Ae, ce, e, h1, h2, h3, h4, h5, h6, h7, h8⟩ := h;exact ⟨Ai, ci, Ad, cd, Ae, ce, e, h1, h2, h3, h4, h5, h6.below hb, h7.below hb, h8.below hb⟩
theorem open_at {m : Mo} {pkg : ByteArray} {major : Int} {name : ByteArray} (w : World) (h1 : pkg.size <= 9223372036854775807) (h2 : m.name.size <= 9223372036854775807) (h3 : name.size <= 9223372036854775807) : TyAt w [.int .i64 9, .string pkg, .int .i64 major, .string m.name, .string name, .slice none 0 0, .slice none 0 0] (openT m pkg major name) :=
  .mk 9 pkg major m.name name [] [] none 0 none 0 (fun _ => [.int .i64 0, .string ⟨#[]⟩, .int .i64 0, .string ⟨#[]⟩, .string ⟨#[]⟩, .slice none 0 0, .slice none 0 0]) h1 h2 h3 (by decide) (by decide) (by decide) (fun i s h => by simp at h) (fun _ => rfl) (fun i t h => by simp at h) (fun i t h => by simp at h)
def ownM (m : Mo) (pkg : ByteArray) (major : Int) (name : ByteArray) : Ty × Int :=
  match m.decs.findIdx? (isDe name) with
  | none => (zTy, 4)
  | some k => match m.decs[k]? with
    | none => (zTy, 4)
    | some d => if d.kind = 3 then (d.typ, 0) else (openT m pkg major name, 0)
theorem idx_lt {α : Type} {p : α -> Bool} {l : List α} {k : Nat} (h : l.findIdx? p = some k) : k < l.length := by
  rw [List.findIdx?_eq_some_iff_getElem] at h;exact h.1
theorem openN_any (m : Mo) (pkg : ByteArray) (major : Int) (env : List If) (kb : Nat) (name : ByteArray) (l : List Value) (w : World) (h : NsAt w l m pkg major env kb) :
    Calls Tryz.prog 205 #[.agg l.toArray, .string name] w fun e w' => e = .returned (.agg #[.int .i64 9, .string pkg, .int .i64 major, .string m.name, .string name, .slice none 0 0, .slice none 0 0]) /\ Below w.heap.size w w' := by
  obtain ⟨Ai, ci, Ad, cd, Ae, ce, rfl, -, -, -, -, -, -, -, -⟩ := h;obtain ⟨W2, hW2, B2, O0, O1, hl2⟩ := two_boxes w #[.string m.name, .slice Ai m.imps.length ci, .slice Ad m.decs.length cd, .string pkg, .int .i64 major, .slice Ae env.length ce, .map (some kb)] #[.int .i64 0, .string ⟨#[]⟩, .int .i64 0, .string ⟨#[]⟩, .string ⟨#[]⟩, .slice none 0 0, .slice none 0 0] 224 55;have HB2 := hZ B2;have HO1 := hZ O1;have HW := hZ hW2;have x0 := cZ O0 0;have x3 := cZ O0 3;have x4 := cZ O0 4;simp at x0 x3 x4;have X5 := HO1.out;have FIN := hZ (setRow_below HB2.out (b := w.heap.size + 1) (by omega) #[.int .i64 9, .string pkg, .int .i64 major, .string m.name, .string name, .slice none 0 0, .slice none 0 0]);clear hW2 B2 O0 O1;go_enter Tryz.func205, Tryz.ntmps205
  go_upto_region 1 with fail
  rw [<- HW.out];clear HW;go_wp2_with (first | (((with_reducible refine wpList_putRow 55 (w.heap.size + 1) #[.int .i64 9, .string pkg, .int .i64 major, .string m.name, .string name, .slice none 0 0, .slice none 0 0] _ _ X5 ?_ ?_ ?_ ?_ ?_ ?_); exact tySize; rfl; exact tyOne; iterate 2 (focus (first | (go_simp; done) | rfl)))))
  exact ret_agg1 (fn := Tryz.f205) (vs := [.int .i64 9, .string pkg, .int .i64 major, .string m.name, .string name, .slice none 0 0, .slice none 0 0]) (b := w.heap.size + 1) rfl rfl Tryz.underlying55 (by kernel_rfl) (cell7 (setRow_heap W2 (w.heap.size + 1) _ _ _ _ HO1.out)) rfl ⟨rfl, FIN.out⟩
def lacksN (m : Mo) (env : List If) (L : List Ty) : Bool := L.any fun x => !(decide (x.mod.size = 0)) && !(thereT m env x).isSome
end Go.Proofs.YteecgiebimdbhaaGreatDoor
namespace Go.Proofs.YteecgiebimdbhaaGreatDoor
open Go.RowKit
open M
theorem index_local (As : Option Addr) (cs n : Nat) (ss : List Ty) (w : World) (hn : ss.length = n) (hz : n <= 9223372036854775807) (hS : SubsAt w As ss)
    (IH : ∀ s, s ∈ ss -> ∀ (v : Value) (w : World), TyV w v s -> Calls Tryz.prog 216 #[v] w fun e w' => e = .returned (.bool (!plainT s)) /\ Below w.heap.size w w') :
    Calls Tryz.prog 210 #[.slice As n cs, .func (.func 216) #[] #[]] w fun e w' => ∃ r : Int, e = .returned (.int .i64 r) /\ decide (0 <= r) = !plainL ss /\ Below w.heap.size w w' := by
  have HS := hZ hS;have HN := hZ hn;have HIH := hZ IH;clear hS hn IH;go_enter Tryz.func210, Tryz.ntmps210
  go_wp2_with fail
  go_loopw [8] (fun i wr => ∃ k : Nat, k <= n /\ i = .int .i64 k /\ Hid (∀ j s, j < k -> ss[j]? = some s -> plainT s = true) /\ Below w.heap.size w wr) (fun i _ => n - (intOf i).toNat)
  case atStart => exact ⟨0, by omega, rfl, hZ (fun j s h => by omega), Below.refl _ _⟩
  case round =>
    obtain ⟨k, hk, rfl, HP, hb⟩ := hrel;obtain ⟨wo, rfl⟩ : ∃ wo : World, wo = wr := ⟨_, rfl⟩;by_cases hlt : k < n
    · obtain ⟨s, hs⟩ : ∃ s, ss[k]? = some s := ⟨_, List.getElem?_eq_getElem (by rw [HN.out]; exact hlt)⟩
      obtain ⟨g, o, v0, v1, v2, v3, v4, v5, v6, rfl, -, h0, h1, h2, h3, h4, h5, h6, hs7⟩ := HS.out.below hb k s hs;have IHs := hZ (HIH.out s (List.mem_of_getElem? hs) (.agg #[v0, v1, v2, v3, v4, v5, v6]) wo ⟨_, rfl, hs7⟩);have HSS := hZ hs;clear hs7 hs;rcases hid_or (plainT s) with hp | hp
      · have R : Hid (decide (0 <= (k : Int)) = !plainL ss) := hZ (by
          rw [show plainL ss = false by
            rw [Bool.eq_false_iff, ne_eq, plainL_mem];intro h;have := h s (List.mem_of_getElem? HSS.out)
            rw [hp.out] at this; cases this]
          simp)
        go_wp2_with fail
        refine IHs.out.mono ?_; rintro e w2 ⟨rfl, hb2⟩; rw [hp.out]
        have hb3 := below_over hb hb2;clear h0 h1 h2 h3 h4 h5 h6 hb hb2;go_wp2_with fail
        go_ret;exact ⟨_, rfl, R.out, hb3⟩
      · go_wp2_with fail
        refine IHs.out.mono ?_; rintro e w2 ⟨rfl, hb2⟩; rw [hp.out]
        have hb3 := below_over hb hb2;clear h0 h1 h2 h3 h4 h5 h6 hb hb2;go_wp2_with fail
        go_roundw
        case rel => exact ⟨k + 1, by omega, by go_num, hZ (fun j q hj hq => by
          rcases Nat.lt_or_ge j k with a | a
          · exact HP.out j q a hq
          · rw [show j = k by omega, HSS.out] at hq
            obtain rfl := Option.some.inj hq;exact hp.out), hb3⟩
        case measure => simp [intOf]; omega
    · have R : Hid (decide (0 <= (-1 : Int)) = !plainL ss) := hZ (by
        rw [(plainL_mem ss).2 (fun s hs => ?_)]
        · rfl
        · obtain ⟨j, hj⟩ := List.getElem?_of_mem hs
          have hjl := (List.getElem?_eq_some_iff.1 hj).1;exact HP.out j s (by rw [HN.out] at hjl; omega) hj)
      go_wp2_with fail
      go_ret;exact ⟨_, rfl, R.out, hb⟩
theorem contains_local (As : Option Addr) (cs n : Nat) (ss : List Ty) (w : World) (hn : ss.length = n) (hz : n <= 9223372036854775807) (hS : SubsAt w As ss)
    (IH : ∀ s, s ∈ ss -> ∀ (v : Value) (w : World), TyV w v s -> Calls Tryz.prog 216 #[v] w fun e w' => e = .returned (.bool (!plainT s)) /\ Below w.heap.size w w') :
    Calls Tryz.prog 176 #[.slice As n cs, .func (.func 216) #[] #[]] w fun e w' => e = .returned (.bool (!plainL ss)) /\ Below w.heap.size w w' := by
  have HC := hZ (index_local As cs n ss w hn hz hS IH);clear hn hS IH;go_enter Tryz.func176, Tryz.ntmps176
  go_wp2_with fail
  refine HC.out.mono ?_; rintro e w2 ⟨r, rfl, hr, hb2⟩
  have HR := hZ hr;clear hr HC;go_wp2_with fail
  go_ret;exact ⟨ret_bool HR.out.symm, hb2⟩
theorem local_any (N : Nat) : ∀ (t : Ty), many t <= N -> ∀ (v : Value) (w : World), TyV w v t ->
    Calls Tryz.prog 216 #[v] w fun e w' => e = .returned (.bool (!plainT t)) /\ Below w.heap.size w w' := by
  induction N with
  | zero => intro t h; have := many_pos t; omega
  | succ N ih =>
    intro t hN v w hv;obtain ⟨l, rfl, hT⟩ := hv;obtain ⟨An, cn, As, cs, rfl, -, -, -, hzn, hz, -, hS⟩ := hT.parts;have HS := hZ hS;clear hT hS;have HE := hZ (plain_eq t)
    have IH : Hid (∀ s, s ∈ t.subs -> ∀ (v : Value) (w : World), TyV w v s -> Calls Tryz.prog 216 #[v] w fun e w' => e = .returned (.bool (!plainT s)) /\ Below w.heap.size w w') :=
      hZ (fun s hs v w hv => ih s (by have := manyL_mem t.subs s hs; have := manyL_eq t; omega) v w hv)
    clear ih hN;generalize hn : t.subs.length = n at hz
    have HN := hZ hn;clear hn;rcases hid_or (t.kind == 8) with h8 | h8
    · have h8' := h8.out
      have R : Hid ((!plainT t) = !plainL t.subs) := hZ (by rw [HE.out, h8']; rfl);rw [R.out];clear R;go_enter Tryz.func216, Tryz.ntmps216
      go_wp2_with fail
      refine (contains_local As cs n t.subs _ HN.out hz (HS.out.below (below_new (Below.refl _ _) _)) IH.out).mono ?_; rintro e w2 ⟨rfl, hb2⟩
      go_wp2_with fail
      go_ret;exact ⟨rfl, (below_new (Below.refl _ _) _).trans (hb2.mono (by simp))⟩
    · have h8' := h8.out
      have R : Hid ((!plainT t) = true) := hZ (by rw [HE.out, h8']; rfl);rw [R.out];clear R;go_enter Tryz.func216, Tryz.ntmps216
      go_wp2_with fail
      go_ret;exact ⟨rfl, below_new (Below.refl _ _) _⟩
end Go.Proofs.YteecgiebimdbhaaGreatDoor
