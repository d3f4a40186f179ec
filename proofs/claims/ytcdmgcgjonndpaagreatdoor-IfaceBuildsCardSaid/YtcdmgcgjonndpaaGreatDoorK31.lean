/-
  Several texts in one.
-/
import Derived.Test.YtcdmgcgjonndpaaGreatDoorK30
import Derived.Shelf.SlSortCmp.NoneTotal
open List (getElem_toArray getElem_cons_succ getElem_cons_zero set_cons_zero set_cons_succ setIfInBounds_toArray)
set_option maxRecDepth 100000
set_option maxHeartbeats 16000000
namespace Go.Proofs.YtcdmgcgjonndpaaGreatDoor
open Go Go.RowKit Go.Shelf
open Go.Sort
open M
theorem locD_at (n : ByteArray) (w : World) (hn : n.size <= 9223372036854775807) : TyAt w [.int .i64 8, .string ⟨#[]⟩, .int .i64 0, .string ⟨#[]⟩, .string n, .slice none 0 0, .slice none 0 0] (locD n) :=
 .mk 8 ⟨#[]⟩ 0 ⟨#[]⟩ n [] [] none 0 none 0 (fun _ => [.int .i64 0, .string ⟨#[]⟩, .int .i64 0, .string ⟨#[]⟩, .string ⟨#[]⟩, .slice none 0 0, .slice none 0 0]) (by decide) (by decide) hn (by decide) (by decide) (by decide) (fun i s h => by simp at h) (fun _ => rfl) (fun i t h => by simp at h) (fun i t h => by simp at h)
theorem cell7m {w : World} {b : Nat} {v0 v1 v2 v3 v4 v5 v6 : Value} {T : TypeId} {fr : Nat × Nat} (h : w.heap[b]? = some (.cells #[v0, v1, v2, v3, v4, v5, v6] T fr)) : ∀ i v, ([v0, v1, v2, v3, v4, v5, v6] : List Value)[i]? = some v -> w.cell? ⟨b, i, none⟩ = some v := fun i v hv => by
 rw [cZ h, <- hv, <- List.getElem?_toArray]
theorem meant10_any (d : De) (Dn : Option Addr) (cD : Nat) (Ds : Option Addr) (dD : Nat) (w : World) (hs : d.name.size <= 9223372036854775807) (hT : TyAt w [.int .i64 d.typ.kind, .string d.typ.pkg, .int .i64 d.typ.major, .string d.typ.mod, .string d.typ.name, .slice Dn d.typ.names.length cD, .slice Ds d.typ.subs.length dD] d.typ) :
  Calls Tryz.prog 18 #[.agg #[.int .i64 d.kind, .string d.name, .int .i64 d.typ.kind, .string d.typ.pkg, .int .i64 d.typ.major, .string d.typ.mod, .string d.typ.name, .slice Dn d.typ.names.length cD, .slice Ds d.typ.subs.length dD]] w fun e w' => ∃ l : List Value, e = .returned (.agg l.toArray) /\ TyAt w' l (meantD d) /\ Below w.heap.size w w' := by
 obtain ⟨W2, hW2, B2, O0, O1, hl2⟩ := two_boxes w #[.int .i64 d.kind, .string d.name, .int .i64 d.typ.kind, .string d.typ.pkg, .int .i64 d.typ.major, .string d.typ.mod, .string d.typ.name, .slice Dn d.typ.names.length cD, .slice Ds d.typ.subs.length dD] #[.int .i64 0, .string ⟨#[]⟩, .int .i64 0, .string ⟨#[]⟩, .string ⟨#[]⟩, .slice none 0 0, .slice none 0 0] 47 45
 have HX1 := hZ O1
 have HB2 := hZ B2
 have HW := hZ hW2
 have HT := hZ hT
 obtain ⟨x0, x1, x2, x3, x4, x5, x6, x7, x8⟩ := cq9 O0
 simp at x0 x1 x2 x3 x4 x5 x6 x7 x8
 obtain ⟨q, hq⟩ : ∃ q, (d.kind == 4) = q := ⟨_, rfl⟩
 have HQ : Hid (meantD d = if q = true then d.typ else locD d.name) := hZ (by rw [<- hq]; unfold meantD; simp)
 clear hT hW2 B2 O0
 cases q with
 | true =>
  have FB := hZ (setRow_below (b := w.heap.size + 1) HB2.out (by omega) #[.int .i64 d.typ.kind, .string d.typ.pkg, .int .i64 d.typ.major, .string d.typ.mod, .string d.typ.name, .slice Dn d.typ.names.length cD, .slice Ds d.typ.subs.length dD])
  have FIN : Hid (∃ l : List Value, Ending.returned (.agg #[.int .i64 d.typ.kind, .string d.typ.pkg, .int .i64 d.typ.major, .string d.typ.mod, .string d.typ.name, .slice Dn d.typ.names.length cD, .slice Ds d.typ.subs.length dD]) = .returned (.agg l.toArray) /\ TyAt (W2.setRow (w.heap.size + 1) #[.int .i64 d.typ.kind, .string d.typ.pkg, .int .i64 d.typ.major, .string d.typ.mod, .string d.typ.name, .slice Dn d.typ.names.length cD, .slice Ds d.typ.subs.length dD]) l (meantD d) /\ Below w.heap.size w (W2.setRow (w.heap.size + 1) #[.int .i64 d.typ.kind, .string d.typ.pkg, .int .i64 d.typ.major, .string d.typ.mod, .string d.typ.name, .slice Dn d.typ.names.length cD, .slice Ds d.typ.subs.length dD])) := hZ
   ⟨[.int .i64 d.typ.kind, .string d.typ.pkg, .int .i64 d.typ.major, .string d.typ.mod, .string d.typ.name, .slice Dn d.typ.names.length cD, .slice Ds d.typ.subs.length dD], rfl, by rw [HQ.out]; exact HT.out.keep FB.out, FB.out⟩
  go_enter Tryz.func18, Tryz.ntmps18
  go_upto_region 1 with fail
  rw [<- HW.out];go_wp2_with (first | ((with_reducible refine wpList_putRow 45 (w.heap.size + 1) #[.int .i64 d.typ.kind, .string d.typ.pkg, .int .i64 d.typ.major, .string d.typ.mod, .string d.typ.name, .slice Dn d.typ.names.length cD, .slice Ds d.typ.subs.length dD] _ _ O1 ?_ ?_ ?_ ?_ ?_ ?_); exact tySize; rfl; exact tyOne; (focus (first | (go_simp; done) | rfl)); (focus (first | (go_simp; done) | rfl))))
  exact ret_agg1 (fn := Tryz.f18) (vs := [.int .i64 d.typ.kind, .string d.typ.pkg, .int .i64 d.typ.major, .string d.typ.mod, .string d.typ.name, .slice Dn d.typ.names.length cD, .slice Ds d.typ.subs.length dD]) (b := w.heap.size + 1) rfl rfl Tryz.underlying45 (by kernel_rfl) (cell7m (setRow_heap W2 (w.heap.size + 1) _ _ _ _ HX1.out)) rfl FIN.out
 | false =>
  have FB := hZ (setRow_below (b := w.heap.size + 1) HB2.out (by omega) #[.int .i64 8, .string ⟨#[]⟩, .int .i64 0, .string ⟨#[]⟩, .string d.name, .slice none 0 0, .slice none 0 0])
  have FIN : Hid (∃ l : List Value, Ending.returned (.agg #[.int .i64 8, .string ⟨#[]⟩, .int .i64 0, .string ⟨#[]⟩, .string d.name, .slice none 0 0, .slice none 0 0]) = .returned (.agg l.toArray) /\ TyAt (W2.setRow (w.heap.size + 1) #[.int .i64 8, .string ⟨#[]⟩, .int .i64 0, .string ⟨#[]⟩, .string d.name, .slice none 0 0, .slice none 0 0]) l (meantD d) /\ Below w.heap.size w (W2.setRow (w.heap.size + 1) #[.int .i64 8, .string ⟨#[]⟩, .int .i64 0, .string ⟨#[]⟩, .string d.name, .slice none 0 0, .slice none 0 0])) := hZ
   ⟨[.int .i64 8, .string ⟨#[]⟩, .int .i64 0, .string ⟨#[]⟩, .string d.name, .slice none 0 0, .slice none 0 0], rfl, by rw [HQ.out]; exact locD_at _ _ hs, FB.out⟩
  go_enter Tryz.func18, Tryz.ntmps18
  go_upto_region 1 with fail
  rw [<- HW.out];go_wp2_with (first | ((with_reducible refine wpList_putRow 45 (w.heap.size + 1) #[.int .i64 8, .string ⟨#[]⟩, .int .i64 0, .string ⟨#[]⟩, .string d.name, .slice none 0 0, .slice none 0 0] _ _ O1 ?_ ?_ ?_ ?_ ?_ ?_); exact tySize; rfl; exact tyOne; (focus (first | (go_simp; done) | rfl)); (focus (first | (go_simp; done) | rfl))))
  exact ret_agg1 (fn := Tryz.f18) (vs := [.int .i64 8, .string ⟨#[]⟩, .int .i64 0, .string ⟨#[]⟩, .string d.name, .slice none 0 0, .slice none 0 0]) (b := w.heap.size + 1) rfl rfl Tryz.underlying45 (by kernel_rfl) (cell7m (setRow_heap W2 (w.heap.size + 1) _ _ _ _ HX1.out)) rfl FIN.out
def addT (d : De) (u : Ty) : List Nm := if d.kind = 1 \/ d.kind = 3 then [⟨d.name, u⟩] else []
def addV (d : De) (u : Ty) : List Nm := if d.kind = 4 then [⟨d.name, u⟩] else []
theorem tell10_any (w0 : World) (bx B : Nat) (p : ByteArray) (j : Int) (dm : ByteArray) (T V : List Nm) (At : Option Addr) (ct : Nat) (Av : Option Addr) (cv : Nat) (d : De) (u : Ty) (Dn : Option Addr) (cD : Nat) (Ds : Option Addr) (dD : Nat) (Un : Option Addr) (cU : Nat) (Us : Option Addr) (dU : Nat) (w : World)
  (h : BuI w0 bx p j dm T V At ct Av cv w) (hw : w0.heap.size <= bx) (hd : d.name.size <= 281474976710656) (hU : TyAt (strike (fun k => k < B) w) [.int .i64 u.kind, .string u.pkg, .int .i64 u.major, .string u.mod, .string u.name, .slice Un u.names.length cU, .slice Us u.subs.length dU] u) (hB : bx + 1 <= B) (hBs : B <= w.heap.size) (hBt : ∀ b, (Value.slice At T.length ct).ownBlock = some b -> b < B) (hBv : ∀ b, (Value.slice Av V.length cv).ownBlock = some b -> b < B) (hTl : T.length <= 100000) (hVl : V.length <= 100000) :
  Calls Tryz.prog 19 #[.pointer (some ⟨bx, 0, none⟩), .agg #[.int .i64 d.kind, .string d.name, .int .i64 d.typ.kind, .string d.typ.pkg, .int .i64 d.typ.major, .string d.typ.mod, .string d.typ.name, .slice Dn d.typ.names.length cD, .slice Ds d.typ.subs.length dD], .agg #[.int .i64 u.kind, .string u.pkg, .int .i64 u.major, .string u.mod, .string u.name, .slice Un u.names.length cU, .slice Us u.subs.length dU]] w fun e w' => e = .returned (.tuple #[]) /\ ∃ (At' : Option Addr) (ct' : Nat) (Av' : Option Addr) (cv' : Nat), BuI w0 bx p j dm (T ++ addT d u) (V ++ addV d u) At' ct' Av' cv' w' := by
 obtain ⟨W2, hW2, B2, O0, O1, hl2⟩ := two_boxes w #[.int .i64 d.kind, .string d.name, .int .i64 d.typ.kind, .string d.typ.pkg, .int .i64 d.typ.major, .string d.typ.mod, .string d.typ.name, .slice Dn d.typ.names.length cD, .slice Ds d.typ.subs.length dD] #[.int .i64 u.kind, .string u.pkg, .int .i64 u.major, .string u.mod, .string u.name, .slice Un u.names.length cU, .slice Us u.subs.length dU] 47 45
 have HW := hZ hW2
 have HB2 := hZ B2
 have HBU := hZ h
 have HU := hZ hU
 have HOB := hZ (And.intro hBt hBv)
 have KEEP : Hid (∀ wx, Below W2.heap.size W2 wx -> (fun wx => wx.cell? ⟨w.heap.size, 1, none⟩ = some (.string d.name) /\ wx.cell? ⟨w.heap.size + 1, 0, none⟩ = some (.int .i64 u.kind) /\ wx.cell? ⟨w.heap.size + 1, 1, none⟩ = some (.string u.pkg) /\ wx.cell? ⟨w.heap.size + 1, 2, none⟩ = some (.int .i64 u.major) /\ wx.cell? ⟨w.heap.size + 1, 3, none⟩ = some (.string u.mod) /\ wx.cell? ⟨w.heap.size + 1, 4, none⟩ = some (.string u.name) /\ wx.cell? ⟨w.heap.size + 1, 5, none⟩ = some (.slice Un u.names.length cU) /\ wx.cell? ⟨w.heap.size + 1, 6, none⟩ = some (.slice Us u.subs.length dU)) wx) := hZ (fun wx hb => by
  have X0 := (hb.block _ (by omega)).trans O0;have X1 := (hb.block _ (by omega)).trans O1;exact ⟨cZ X0 1, cZ X1 0, cZ X1 1, cZ X1 2, cZ X1 3, cZ X1 4, cZ X1 5, cZ X1 6⟩)
 have HK0 : Hid (∀ wx, Below W2.heap.size W2 wx -> wx.cell? ⟨w.heap.size, 0, none⟩ = some (.int .i64 d.kind)) := hZ (fun wx hb => by
  have X0 := (hb.block _ (by omega)).trans O0;exact cZ X0 0)
 have s2 : W2.heap.size = w.heap.size + 1 + 1 := by rw [hW2]; simp
 have HS2 := hZ s2
 clear h hU hW2 B2 O0 O1 hl2 hBt hBv s2
 go_enter Tryz.func19, Tryz.ntmps19
 go_upto_region 1 with fail
 rw [<- HW.out]
 clear HW
 go_cut [6] (fun s6 wx => ∃ b : Nat, s6 = .pointer (some ⟨b, 0, none⟩) /\ wx.heap[b]? = some (.cells #[.string d.name, .int .i64 u.kind, .string u.pkg, .int .i64 u.major, .string u.mod, .string u.name, .slice Un u.names.length cU, .slice Us u.subs.length dU] 49 (0, 0)) /\ Below W2.heap.size W2 wx)
 case first =>
  have hH0 := KEEP.out W2.drew (Below.drew (Below.refl _ _));refine AnyX.start (fun wx => wx.cell? ⟨w.heap.size, 1, none⟩ = some (.string d.name) /\ wx.cell? ⟨w.heap.size + 1, 0, none⟩ = some (.int .i64 u.kind) /\ wx.cell? ⟨w.heap.size + 1, 1, none⟩ = some (.string u.pkg) /\ wx.cell? ⟨w.heap.size + 1, 2, none⟩ = some (.int .i64 u.major) /\ wx.cell? ⟨w.heap.size + 1, 3, none⟩ = some (.string u.mod) /\ wx.cell? ⟨w.heap.size + 1, 4, none⟩ = some (.string u.name) /\ wx.cell? ⟨w.heap.size + 1, 5, none⟩ = some (.slice Un u.names.length cU) /\ wx.cell? ⟨w.heap.size + 1, 6, none⟩ = some (.slice Us u.subs.length dU)) (fun _ => false) (by kernel_rfl) ?_;refine AnyX.mv (i := 0) (v := ?_) rfl (fun _ _ _ h => h) (Or.inl ⟨by rfl, ?_⟩) ?_;rotate_left
  ·(intro wS _; go_simp; try with_reducible rfl)
  simp only [getElem_toArray, getElem_cons_succ, getElem_cons_zero];simp only [Act.put, setIfInBounds_toArray];simp only [set_cons_zero, set_cons_succ];refine AnyX.tk (i := 1) (v := ?_) rfl (fun _ _ _ h => h) hH0 (Or.inl ⟨by rfl, ?_⟩) ?_;rotate_left
  ·(intro wS hS; (try obtain ⟨n1, c0, c1, c2, c3, c4, c5, c6⟩ := hS); go_simp; try with_reducible rfl)
  simp only [getElem_toArray, getElem_cons_succ, getElem_cons_zero];simp only [Act.put, setIfInBounds_toArray];simp only [set_cons_zero, set_cons_succ];refine AnyX.tk (i := 3) (v := ?_) rfl (fun _ _ _ h => h) hH0 (Or.inl ⟨by rfl, ?_⟩) ?_;rotate_left
  ·(intro wS hS; (try obtain ⟨n1, c0, c1, c2, c3, c4, c5, c6⟩ := hS); go_simp; try with_reducible rfl)
  simp only [getElem_toArray, getElem_cons_succ, getElem_cons_zero];simp only [Act.put, setIfInBounds_toArray];simp only [set_cons_zero, set_cons_succ];refine AnyX.go2 2 5 (by kernel_rfl) rfl rfl rfl rfl (fun K hK => ?_) (fun K hK => ?_)
  ·skip
   simp only [getElem_toArray, getElem_cons_succ, getElem_cons_zero];go_simp
   refine (cln_any d.name (W2.drew) hd).mono ?_;rintro e v1 ⟨rfl, hb⟩;have hB1 : Below W2.heap.size W2 v1 := below_over (Below.drew (Below.refl W2.heap.size W2)) hb;simp only [];refine hK.out _ _ (fun hoff _ => KEEP.out _ hB1) ?_;clear hK;(try simp only [Act.put, setIfInBounds_toArray]);(try simp only [set_cons_zero, set_cons_succ]);have hH1 := KEEP.out _ hB1;refine AnyX.mv (i := 4) (v := ?_) rfl (fun _ _ _ h => h) (Or.inl ⟨by rfl, ?_⟩) ?_;rotate_left
   ·(intro wS _; go_simp; try with_reducible rfl)
   simp only [getElem_toArray, getElem_cons_succ, getElem_cons_zero];simp only [Act.put, setIfInBounds_toArray];simp only [set_cons_zero, set_cons_succ];refine AnyX.go 5 (by kernel_rfl) rfl rfl (fun K hK => ?_);simp only [getElem_toArray, getElem_cons_succ, getElem_cons_zero];go_simp
   obtain ⟨v2, hv2⟩ : ∃ wa, wa = v1.alloc (.cells #[.string ⟨#[]⟩, .int .i64 0, .string ⟨#[]⟩, .int .i64 0, .string ⟨#[]⟩, .string ⟨#[]⟩, .slice none 0 0, .slice none 0 0] 49) := ⟨_, rfl⟩;have hB2 : Below W2.heap.size W2 v2 := by rw [hv2]; exact below_new hB1 _
   have X2 : v2.heap[v1.heap.size]? = some (.cells #[.string ⟨#[]⟩, .int .i64 0, .string ⟨#[]⟩, .int .i64 0, .string ⟨#[]⟩, .string ⟨#[]⟩, .slice none 0 0, .slice none 0 0] 49 (0, 0)) := by rw [hv2]; exact heap_alloc_new v1 _
   have lt2 : v1.heap.size < v2.heap.size := by rw [hv2]; simp
   have bl2 : W2.heap.size <= v1.heap.size := hB1.size;have hHa2 := KEEP.out v2 hB2;rw [hv2] at hHa2;refine hK.out _ _ (fun hoff _ => hHa2) ?_;clear hK;(try simp only [Act.put, setIfInBounds_toArray]);(try simp only [set_cons_zero, set_cons_succ]);rw [<- hv2];clear hHa2 hv2;refine AnyX.go 6 (by kernel_rfl) rfl rfl (fun K hK => ?_);simp only [getElem_toArray, getElem_cons_succ, getElem_cons_zero];refine wp_store_row 49 (.tmp 6) (.tmp 11) rfl (v1.heap.size) #[.string d.name, .int .i64 u.kind, .string u.pkg, .int .i64 u.major, .string u.mod, .string u.name, .slice Un u.names.length cU, .slice Us u.subs.length dU] rfl rfl _ _ X2 nmSizeF rfl nmOneF ?_;have hBs := setRow_below hB2 bl2 #[.string d.name, .int .i64 u.kind, .string u.pkg, .int .i64 u.major, .string u.mod, .string u.name, .slice Un u.names.length cU, .slice Us u.subs.length dU];refine hK.out _ _ (fun hoff _ => KEEP.out _ hBs) ?_;clear hK;(try simp only [Act.put, setIfInBounds_toArray]);(try simp only [set_cons_zero, set_cons_succ]);refine AnyX.done (by kernel_rfl) ?_ _;go_wp2_with fail
   go_meet
   exact ⟨_, rfl, setRow_heap _ _ _ _ _ _ X2, hBs⟩
  ·skip
   simp only [getElem_toArray, getElem_cons_succ, getElem_cons_zero];go_simp
   obtain ⟨v3, hv3⟩ : ∃ wa, wa = (W2.alloc (.cells #[.string ⟨#[]⟩, .int .i64 0, .string ⟨#[]⟩, .int .i64 0, .string ⟨#[]⟩, .string ⟨#[]⟩, .slice none 0 0, .slice none 0 0] 49)).drew := ⟨_, rfl⟩;have hB3 : Below W2.heap.size W2 v3 := by rw [hv3]; exact Below.drew (below_new (Below.refl _ _) _)
   have X3 : v3.heap[W2.heap.size]? = some (.cells #[.string ⟨#[]⟩, .int .i64 0, .string ⟨#[]⟩, .int .i64 0, .string ⟨#[]⟩, .string ⟨#[]⟩, .slice none 0 0, .slice none 0 0] 49 (0, 0)) := by rw [hv3]; exact heap_alloc_new W2 _
   have lt3 : W2.heap.size < v3.heap.size := by rw [hv3]; simp
   have bl3 : W2.heap.size <= W2.heap.size := Nat.le_refl _;have hHa3 := KEEP.out v3 hB3;rw [hv3] at hHa3;refine hK.out _ _ (fun hoff _ => hHa3) ?_;clear hK;(try simp only [Act.put, setIfInBounds_toArray]);(try simp only [set_cons_zero, set_cons_succ]);rw [<- hv3];clear hHa3 hv3;refine AnyX.go 2 (by kernel_rfl) rfl rfl (fun K hK => ?_);simp only [getElem_toArray, getElem_cons_succ, getElem_cons_zero];go_simp
   refine (cln_any d.name (v3) hd).mono ?_;rintro e v4 ⟨rfl, hb⟩;have hB4 : Below W2.heap.size W2 v4 := below_over hB3 hb;have X4 := (hb.block _ lt3).trans X3;have lt4 := Nat.lt_of_lt_of_le lt3 hb.size;simp only [];refine hK.out _ _ (fun hoff _ => KEEP.out _ hB4) ?_;clear hK;(try simp only [Act.put, setIfInBounds_toArray]);(try simp only [set_cons_zero, set_cons_succ]);have hH4 := KEEP.out _ hB4;refine AnyX.mv (i := 4) (v := ?_) rfl (fun _ _ _ h => h) (Or.inl ⟨by rfl, ?_⟩) ?_;rotate_left
   ·(intro wS _; go_simp; try with_reducible rfl)
   simp only [getElem_toArray, getElem_cons_succ, getElem_cons_zero];simp only [Act.put, setIfInBounds_toArray];simp only [set_cons_zero, set_cons_succ];refine AnyX.go 6 (by kernel_rfl) rfl rfl (fun K hK => ?_);simp only [getElem_toArray, getElem_cons_succ, getElem_cons_zero];refine wp_store_row 49 (.tmp 6) (.tmp 11) rfl (W2.heap.size) #[.string d.name, .int .i64 u.kind, .string u.pkg, .int .i64 u.major, .string u.mod, .string u.name, .slice Un u.names.length cU, .slice Us u.subs.length dU] rfl rfl _ _ X4 nmSizeF rfl nmOneF ?_;have hBs := setRow_below hB4 bl3 #[.string d.name, .int .i64 u.kind, .string u.pkg, .int .i64 u.major, .string u.mod, .string u.name, .slice Un u.names.length cU, .slice Us u.subs.length dU];refine hK.out _ _ (fun hoff _ => KEEP.out _ hBs) ?_;clear hK;(try simp only [Act.put, setIfInBounds_toArray]);(try simp only [set_cons_zero, set_cons_succ]);refine AnyX.done (by kernel_rfl) ?_ _;go_wp2_with fail
   go_meet
   exact ⟨_, rfl, setRow_heap _ _ _ _ _ _ X4, hBs⟩
 case rest =>
  obtain ⟨b, rfl, hXb, hBb⟩ := hcut;obtain ⟨wy, rfl⟩ : ∃ wy : World, wy = wc := ⟨_, rfl⟩;have HXb := hZ hXb;have HBy := hZ (below_over HB2.out hBb);have HI := hZ (HBU.out.keep HBy.out);have HUy : Hid (nmE (strike (fun k => k < B) wy) [.string d.name, .int .i64 u.kind, .string u.pkg, .int .i64 u.major, .string u.mod, .string u.name, .slice Un u.names.length cU, .slice Us u.subs.length dU] ⟨d.name, u⟩) := hZ ⟨by show d.name.size <= _; omega, _, rfl, HU.out.move HBy.out.size fun k hk hS => ⟨hS, HBy.out.block k hk⟩⟩;have hsy := HBy.out.size;have k0 := HK0.out wy hBb;clear hXb hBb KEEP;obtain ⟨q1, hq1⟩ : ∃ q, (d.kind == 1) = q := ⟨_, rfl⟩;obtain ⟨q3, hq3⟩ : ∃ q, (d.kind == 3) = q := ⟨_, rfl⟩;obtain ⟨q4, hq4⟩ : ∃ q, (d.kind == 4) = q := ⟨_, rfl⟩;have HK : Hid (addT d u = if (q1 || q3) = true then [⟨d.name, u⟩] else []) := hZ (by rw [<- hq1, <- hq3]; unfold addT; simp);have HKV : Hid (addV d u = if q4 = true then [⟨d.name, u⟩] else []) := hZ (by rw [<- hq4]; unfold addV; simp)
  have HQ13 : Hid ((q1 || q3) = true -> q4 = false) := hZ (fun h => by
   rw [<- hq1, <- hq3] at h;rw [<- hq4];simp at h ⊢;omega)
  cases q1 with
  | true =>
   obtain rfl := HQ13.out rfl;have y3 := cZ HI.out.box 3;obtain ⟨z0, z1, z2, z3, z4, z5, z6, z7⟩ := cq8 HXb.out;have S0 : wy.cell? ⟨bx, 3, none⟩ = some (.slice At T.length ct) /\ wy.cell? ⟨b, 0, none⟩ = some (.string d.name) /\ wy.cell? ⟨b, 1, none⟩ = some (.int .i64 u.kind) /\ wy.cell? ⟨b, 2, none⟩ = some (.string u.pkg) /\ wy.cell? ⟨b, 3, none⟩ = some (.int .i64 u.major) /\ wy.cell? ⟨b, 4, none⟩ = some (.string u.mod) /\ wy.cell? ⟨b, 5, none⟩ = some (.string u.name) /\ wy.cell? ⟨b, 6, none⟩ = some (.slice Un u.names.length cU) /\ wy.cell? ⟨b, 7, none⟩ = some (.slice Us u.subs.length dU) := ⟨y3, z0, z1, z2, z3, z4, z5, z6, z7⟩;go_upto_region 5 with fail
   have KP : Hid (∀ wx, Below wy.heap.size wy wx -> wx.cell? ⟨bx, 3, none⟩ = some (.slice At T.length ct) /\ wx.cell? ⟨b, 0, none⟩ = some (.string d.name) /\ wx.cell? ⟨b, 1, none⟩ = some (.int .i64 u.kind) /\ wx.cell? ⟨b, 2, none⟩ = some (.string u.pkg) /\ wx.cell? ⟨b, 3, none⟩ = some (.int .i64 u.major) /\ wx.cell? ⟨b, 4, none⟩ = some (.string u.mod) /\ wx.cell? ⟨b, 5, none⟩ = some (.string u.name) /\ wx.cell? ⟨b, 6, none⟩ = some (.slice Un u.names.length cU) /\ wx.cell? ⟨b, 7, none⟩ = some (.slice Us u.subs.length dU)) := hZ (fun wx hb => by
    have e := fun (a : Addr) (v : Value) (hv : wy.cell? a = some v) => (hb.cell (p := a) (World.block_lt_of_cell? _ _ hv)).trans hv
    exact ⟨e _ _ S0.1, e _ _ S0.2.1, e _ _ S0.2.2.1, e _ _ S0.2.2.2.1, e _ _ S0.2.2.2.2.1, e _ _ S0.2.2.2.2.2.1, e _ _ S0.2.2.2.2.2.2.1, e _ _ S0.2.2.2.2.2.2.2.1, e _ _ S0.2.2.2.2.2.2.2.2⟩)
   have hH0 := KP.out wy.drew (Below.drew (Below.refl _ _));refine AnyX.start (fun wx => wx.cell? ⟨bx, 3, none⟩ = some (.slice At T.length ct) /\ wx.cell? ⟨b, 0, none⟩ = some (.string d.name) /\ wx.cell? ⟨b, 1, none⟩ = some (.int .i64 u.kind) /\ wx.cell? ⟨b, 2, none⟩ = some (.string u.pkg) /\ wx.cell? ⟨b, 3, none⟩ = some (.int .i64 u.major) /\ wx.cell? ⟨b, 4, none⟩ = some (.string u.mod) /\ wx.cell? ⟨b, 5, none⟩ = some (.string u.name) /\ wx.cell? ⟨b, 6, none⟩ = some (.slice Un u.names.length cU) /\ wx.cell? ⟨b, 7, none⟩ = some (.slice Us u.subs.length dU)) (fun k => decide (7 <= k)) (by kernel_rfl) ?_;refine AnyX.mv (i := 0) (v := ?_) rfl (fun _ _ _ h => h) (Or.inl ⟨by rfl, ?_⟩) ?_;rotate_left
   ·(intro wS _; go_simp; try with_reducible rfl)
   simp only [getElem_toArray, getElem_cons_succ, getElem_cons_zero];simp only [Act.put, setIfInBounds_toArray];simp only [set_cons_zero, set_cons_succ];refine AnyX.mv (i := 1) (v := ?_) rfl (fun _ _ _ h => h) (Or.inl ⟨by rfl, ?_⟩) ?_;rotate_left
   ·(intro wS _; go_simp; try with_reducible rfl)
   simp only [getElem_toArray, getElem_cons_succ, getElem_cons_zero];simp only [Act.put, setIfInBounds_toArray];simp only [set_cons_zero, set_cons_succ];refine AnyX.mv (i := 2) (v := ?_) rfl (fun _ _ _ h => h) (Or.inl ⟨by rfl, ?_⟩) ?_;rotate_left
   ·(intro wS _; go_simp; try with_reducible rfl)
   simp only [getElem_toArray, getElem_cons_succ, getElem_cons_zero];simp only [Act.put, setIfInBounds_toArray];simp only [set_cons_zero, set_cons_succ];refine AnyX.mv (i := 3) (v := ?_) rfl (fun _ _ _ h => h) (Or.inl ⟨by rfl, ?_⟩) ?_;rotate_left
   ·(intro wS _; go_simp; try with_reducible rfl)
   simp only [getElem_toArray, getElem_cons_succ, getElem_cons_zero];simp only [Act.put, setIfInBounds_toArray];simp only [set_cons_zero, set_cons_succ];refine AnyX.tk (i := 4) (v := ?_) rfl (fun _ _ _ h => h) hH0 (Or.inl ⟨by rfl, ?_⟩) ?_;rotate_left
   ·(intro wS hS; (try obtain ⟨m0, c0, c1, c2, c3, c4, c5, c6, c7⟩ := hS); go_simp; try with_reducible rfl)
   simp only [getElem_toArray, getElem_cons_succ, getElem_cons_zero];simp only [Act.put, setIfInBounds_toArray];simp only [set_cons_zero, set_cons_succ];refine AnyX.tk (i := 5) (v := ?_) rfl (fun _ _ _ h => h) hH0 (Or.inl ⟨by rfl, ?_⟩) ?_;rotate_left
   ·(intro wS hS; (try obtain ⟨m0, c0, c1, c2, c3, c4, c5, c6, c7⟩ := hS); go_simp; try with_reducible rfl)
   simp only [getElem_toArray, getElem_cons_succ, getElem_cons_zero];simp only [Act.put, setIfInBounds_toArray];simp only [set_cons_zero, set_cons_succ];obtain ⟨w1, hw1⟩ : ∃ w1 : World, w1 = wy.drew := ⟨_, rfl⟩;rw [<- hw1];have hbd : Below wy.heap.size wy w1 := by rw [hw1]; exact Below.drew (Below.refl _ _)
   have HI1 := HI.out.keep hbd;have HU1 : nmE (strike (fun k => k < B) w1) [.string d.name, .int .i64 u.kind, .string u.pkg, .int .i64 u.major, .string u.mod, .string u.name, .slice Un u.names.length cU, .slice Us u.subs.length dU] ⟨d.name, u⟩ := nmR.move _ _ _ _ _ _ HUy.out hbd.size fun k hk hS => ⟨hS, hbd.block k hk⟩
   have hs1 := hbd.size;clear hw1 hH0;refine AnyX.go 6 (by kernel_rfl) rfl rfl (fun K hK => ?_);simp only [getElem_toArray, getElem_cons_succ, getElem_cons_zero];go_simp
   refine hK.out _ _ (fun hoff _ => KP.out _ (below_new hbd _)) ?_;clear hK;(try simp only [Act.put, setIfInBounds_toArray]);(try simp only [set_cons_zero, set_cons_succ]);obtain ⟨C, hC1, hown, hC4⟩ := HI1.types.cells;have hown : w1.ownsRow (bx + 1) 49 8 (.slice At T.length ct) T.length C.flatten := hown;obtain ⟨inf, hi1, hy0, hy1, hy2⟩ := info_parts nm_infoF;have hMX : T.length + 1 <= maxLen := by unfold maxLen; omega
   have hAL : ∀ oo, bx + 1 <= (w1.alloc oo).heap.size := fun oo => by have e1 : (w1.alloc oo).heap.size = w1.heap.size + 1 := (by simp); omega
   refine AnyX.go 7 (by kernel_rfl) rfl rfl (fun K hK => ?_);simp only [getElem_toArray, getElem_cons_succ, getElem_cons_zero];refine wp_append_lies _ (.tmp 21) (.tmp 23) 30 rfl (bx + 1) 49 inf _ 8 128 Tryz.underlying30 hi1 hy0 hy1 hy2 (by rfl) (Nat.zero_lt_succ 7) (.slice At T.length ct) T.length _ rfl (hown.alloc _) ⟨w1.heap.size, 0, none⟩ 1 1 [.string d.name, .int .i64 u.kind, .string u.pkg, .int .i64 u.major, .string u.mod, .string u.name, .slice Un u.names.length cU, .slice Us u.subs.length dU] rfl rfl (fun q u hq => by rw [WideShapes.add_plain, Nat.zero_add, cZ (heap_alloc_new w1 _), <- hq, <- List.getElem?_toArray]) (fun u hu => by simp at hu; rcases hu with rfl | rfl | rfl | rfl | rfl | rfl | rfl | rfl <;> rfl) Nat.one_pos hMX (by omega) (hAL _) _ rfl ?_;intro gb cap w3 hown3 hgrow hat hlt3;obtain ⟨NEW, bel9, z9, e9⟩ := HI1.type hw HU1 hB (by omega) HOB.out.1 HOB.out.2 hC1 hC4 hown3 hgrow hat;refine hK.out _ _ (fun hoff _ => absurd hoff (by decide)) ?_;clear hK;(try simp only [Act.put, setIfInBounds_toArray]);(try simp only [set_cons_zero, set_cons_succ]);refine AnyX.mv (i := 8) (v := ?_) rfl (fun _ _ _ h => h) (Or.inl ⟨by rfl, ?_⟩) ?_;rotate_left
   ·(intro wS _; go_simp; try with_reducible rfl)
   simp only [getElem_toArray, getElem_cons_succ, getElem_cons_zero];simp only [Act.put, setIfInBounds_toArray];simp only [set_cons_zero, set_cons_succ];refine AnyX.mv (i := 9) (v := ?_) rfl (fun _ _ _ h => h) (Or.inl ⟨by rfl, ?_⟩) ?_;rotate_left
   ·(intro wS _; go_simp; try with_reducible rfl)
   simp only [getElem_toArray, getElem_cons_succ, getElem_cons_zero];simp only [Act.put, setIfInBounds_toArray];simp only [set_cons_zero, set_cons_succ];refine AnyX.go 10 (by kernel_rfl) rfl rfl (fun K hK => ?_);simp only [getElem_toArray, getElem_cons_succ, getElem_cons_zero];go_simp
   refine hK.out _ _ (fun hoff _ => absurd hoff (by decide)) ?_;clear hK;(try simp only [Act.put, setIfInBounds_toArray]);(try simp only [set_cons_zero, set_cons_succ]);refine AnyX.done (by kernel_rfl) ?_ _;clear y3 z0 z1 z2 z3 z4 z5 z6 z7 S0;have RES := hZ NEW;go_wp2_with fail
   go_end0
   exact ⟨rfl, _, _, _, _, by rw [HK.out, HKV.out]; simpa using RES.out⟩
  | false =>
   cases q3 with
   | true =>
    obtain rfl := HQ13.out rfl;have y3 := cZ HI.out.box 3;obtain ⟨z0, z1, z2, z3, z4, z5, z6, z7⟩ := cq8 HXb.out;have S0 : wy.cell? ⟨bx, 3, none⟩ = some (.slice At T.length ct) /\ wy.cell? ⟨b, 0, none⟩ = some (.string d.name) /\ wy.cell? ⟨b, 1, none⟩ = some (.int .i64 u.kind) /\ wy.cell? ⟨b, 2, none⟩ = some (.string u.pkg) /\ wy.cell? ⟨b, 3, none⟩ = some (.int .i64 u.major) /\ wy.cell? ⟨b, 4, none⟩ = some (.string u.mod) /\ wy.cell? ⟨b, 5, none⟩ = some (.string u.name) /\ wy.cell? ⟨b, 6, none⟩ = some (.slice Un u.names.length cU) /\ wy.cell? ⟨b, 7, none⟩ = some (.slice Us u.subs.length dU) := ⟨y3, z0, z1, z2, z3, z4, z5, z6, z7⟩;go_upto_region 5 with fail
    have KP : Hid (∀ wx, Below wy.heap.size wy wx -> wx.cell? ⟨bx, 3, none⟩ = some (.slice At T.length ct) /\ wx.cell? ⟨b, 0, none⟩ = some (.string d.name) /\ wx.cell? ⟨b, 1, none⟩ = some (.int .i64 u.kind) /\ wx.cell? ⟨b, 2, none⟩ = some (.string u.pkg) /\ wx.cell? ⟨b, 3, none⟩ = some (.int .i64 u.major) /\ wx.cell? ⟨b, 4, none⟩ = some (.string u.mod) /\ wx.cell? ⟨b, 5, none⟩ = some (.string u.name) /\ wx.cell? ⟨b, 6, none⟩ = some (.slice Un u.names.length cU) /\ wx.cell? ⟨b, 7, none⟩ = some (.slice Us u.subs.length dU)) := hZ (fun wx hb => by
     have e := fun (a : Addr) (v : Value) (hv : wy.cell? a = some v) => (hb.cell (p := a) (World.block_lt_of_cell? _ _ hv)).trans hv
     exact ⟨e _ _ S0.1, e _ _ S0.2.1, e _ _ S0.2.2.1, e _ _ S0.2.2.2.1, e _ _ S0.2.2.2.2.1, e _ _ S0.2.2.2.2.2.1, e _ _ S0.2.2.2.2.2.2.1, e _ _ S0.2.2.2.2.2.2.2.1, e _ _ S0.2.2.2.2.2.2.2.2⟩)
    have hH0 := KP.out wy.drew (Below.drew (Below.refl _ _));refine AnyX.start (fun wx => wx.cell? ⟨bx, 3, none⟩ = some (.slice At T.length ct) /\ wx.cell? ⟨b, 0, none⟩ = some (.string d.name) /\ wx.cell? ⟨b, 1, none⟩ = some (.int .i64 u.kind) /\ wx.cell? ⟨b, 2, none⟩ = some (.string u.pkg) /\ wx.cell? ⟨b, 3, none⟩ = some (.int .i64 u.major) /\ wx.cell? ⟨b, 4, none⟩ = some (.string u.mod) /\ wx.cell? ⟨b, 5, none⟩ = some (.string u.name) /\ wx.cell? ⟨b, 6, none⟩ = some (.slice Un u.names.length cU) /\ wx.cell? ⟨b, 7, none⟩ = some (.slice Us u.subs.length dU)) (fun k => decide (7 <= k)) (by kernel_rfl) ?_;refine AnyX.mv (i := 0) (v := ?_) rfl (fun _ _ _ h => h) (Or.inl ⟨by rfl, ?_⟩) ?_;rotate_left
    ·(intro wS _; go_simp; try with_reducible rfl)
    simp only [getElem_toArray, getElem_cons_succ, getElem_cons_zero];simp only [Act.put, setIfInBounds_toArray];simp only [set_cons_zero, set_cons_succ];refine AnyX.mv (i := 1) (v := ?_) rfl (fun _ _ _ h => h) (Or.inl ⟨by rfl, ?_⟩) ?_;rotate_left
    ·(intro wS _; go_simp; try with_reducible rfl)
    simp only [getElem_toArray, getElem_cons_succ, getElem_cons_zero];simp only [Act.put, setIfInBounds_toArray];simp only [set_cons_zero, set_cons_succ];refine AnyX.mv (i := 2) (v := ?_) rfl (fun _ _ _ h => h) (Or.inl ⟨by rfl, ?_⟩) ?_;rotate_left
    ·(intro wS _; go_simp; try with_reducible rfl)
    simp only [getElem_toArray, getElem_cons_succ, getElem_cons_zero];simp only [Act.put, setIfInBounds_toArray];simp only [set_cons_zero, set_cons_succ];refine AnyX.mv (i := 3) (v := ?_) rfl (fun _ _ _ h => h) (Or.inl ⟨by rfl, ?_⟩) ?_;rotate_left
    ·(intro wS _; go_simp; try with_reducible rfl)
    simp only [getElem_toArray, getElem_cons_succ, getElem_cons_zero];simp only [Act.put, setIfInBounds_toArray];simp only [set_cons_zero, set_cons_succ];refine AnyX.tk (i := 4) (v := ?_) rfl (fun _ _ _ h => h) hH0 (Or.inl ⟨by rfl, ?_⟩) ?_;rotate_left
    ·(intro wS hS; (try obtain ⟨m0, c0, c1, c2, c3, c4, c5, c6, c7⟩ := hS); go_simp; try with_reducible rfl)
    simp only [getElem_toArray, getElem_cons_succ, getElem_cons_zero];simp only [Act.put, setIfInBounds_toArray];simp only [set_cons_zero, set_cons_succ];refine AnyX.tk (i := 5) (v := ?_) rfl (fun _ _ _ h => h) hH0 (Or.inl ⟨by rfl, ?_⟩) ?_;rotate_left
    ·(intro wS hS; (try obtain ⟨m0, c0, c1, c2, c3, c4, c5, c6, c7⟩ := hS); go_simp; try with_reducible rfl)
    simp only [getElem_toArray, getElem_cons_succ, getElem_cons_zero];simp only [Act.put, setIfInBounds_toArray];simp only [set_cons_zero, set_cons_succ];obtain ⟨w1, hw1⟩ : ∃ w1 : World, w1 = wy.drew := ⟨_, rfl⟩;rw [<- hw1];have hbd : Below wy.heap.size wy w1 := by rw [hw1]; exact Below.drew (Below.refl _ _)
    have HI1 := HI.out.keep hbd;have HU1 : nmE (strike (fun k => k < B) w1) [.string d.name, .int .i64 u.kind, .string u.pkg, .int .i64 u.major, .string u.mod, .string u.name, .slice Un u.names.length cU, .slice Us u.subs.length dU] ⟨d.name, u⟩ := nmR.move _ _ _ _ _ _ HUy.out hbd.size fun k hk hS => ⟨hS, hbd.block k hk⟩
    have hs1 := hbd.size;clear hw1 hH0;refine AnyX.go 6 (by kernel_rfl) rfl rfl (fun K hK => ?_);simp only [getElem_toArray, getElem_cons_succ, getElem_cons_zero];go_simp
    refine hK.out _ _ (fun hoff _ => KP.out _ (below_new hbd _)) ?_;clear hK;(try simp only [Act.put, setIfInBounds_toArray]);(try simp only [set_cons_zero, set_cons_succ]);obtain ⟨C, hC1, hown, hC4⟩ := HI1.types.cells;have hown : w1.ownsRow (bx + 1) 49 8 (.slice At T.length ct) T.length C.flatten := hown;obtain ⟨inf, hi1, hy0, hy1, hy2⟩ := info_parts nm_infoF;have hMX : T.length + 1 <= maxLen := by unfold maxLen; omega
    have hAL : ∀ oo, bx + 1 <= (w1.alloc oo).heap.size := fun oo => by have e1 : (w1.alloc oo).heap.size = w1.heap.size + 1 := (by simp); omega
    refine AnyX.go 7 (by kernel_rfl) rfl rfl (fun K hK => ?_);simp only [getElem_toArray, getElem_cons_succ, getElem_cons_zero];refine wp_append_lies _ (.tmp 21) (.tmp 23) 30 rfl (bx + 1) 49 inf _ 8 128 Tryz.underlying30 hi1 hy0 hy1 hy2 (by rfl) (Nat.zero_lt_succ 7) (.slice At T.length ct) T.length _ rfl (hown.alloc _) ⟨w1.heap.size, 0, none⟩ 1 1 [.string d.name, .int .i64 u.kind, .string u.pkg, .int .i64 u.major, .string u.mod, .string u.name, .slice Un u.names.length cU, .slice Us u.subs.length dU] rfl rfl (fun q u hq => by rw [WideShapes.add_plain, Nat.zero_add, cZ (heap_alloc_new w1 _), <- hq, <- List.getElem?_toArray]) (fun u hu => by simp at hu; rcases hu with rfl | rfl | rfl | rfl | rfl | rfl | rfl | rfl <;> rfl) Nat.one_pos hMX (by omega) (hAL _) _ rfl ?_;intro gb cap w3 hown3 hgrow hat hlt3;obtain ⟨NEW, bel9, z9, e9⟩ := HI1.type hw HU1 hB (by omega) HOB.out.1 HOB.out.2 hC1 hC4 hown3 hgrow hat;refine hK.out _ _ (fun hoff _ => absurd hoff (by decide)) ?_;clear hK;(try simp only [Act.put, setIfInBounds_toArray]);(try simp only [set_cons_zero, set_cons_succ]);refine AnyX.mv (i := 8) (v := ?_) rfl (fun _ _ _ h => h) (Or.inl ⟨by rfl, ?_⟩) ?_;rotate_left
    ·(intro wS _; go_simp; try with_reducible rfl)
    simp only [getElem_toArray, getElem_cons_succ, getElem_cons_zero];simp only [Act.put, setIfInBounds_toArray];simp only [set_cons_zero, set_cons_succ];refine AnyX.mv (i := 9) (v := ?_) rfl (fun _ _ _ h => h) (Or.inl ⟨by rfl, ?_⟩) ?_;rotate_left
    ·(intro wS _; go_simp; try with_reducible rfl)
    simp only [getElem_toArray, getElem_cons_succ, getElem_cons_zero];simp only [Act.put, setIfInBounds_toArray];simp only [set_cons_zero, set_cons_succ];refine AnyX.go 10 (by kernel_rfl) rfl rfl (fun K hK => ?_);simp only [getElem_toArray, getElem_cons_succ, getElem_cons_zero];go_simp
    refine hK.out _ _ (fun hoff _ => absurd hoff (by decide)) ?_;clear hK;(try simp only [Act.put, setIfInBounds_toArray]);(try simp only [set_cons_zero, set_cons_succ]);refine AnyX.done (by kernel_rfl) ?_ _;clear y3 z0 z1 z2 z3 z4 z5 z6 z7 S0;have RES := hZ NEW;go_wp2_with fail
    go_end0
    exact ⟨rfl, _, _, _, _, by rw [HK.out, HKV.out]; simpa using RES.out⟩
   | false =>
    cases q4 with
    | true =>
     have y4 := cZ HI.out.box 4;obtain ⟨z0, z1, z2, z3, z4, z5, z6, z7⟩ := cq8 HXb.out;have S0 : wy.cell? ⟨bx, 4, none⟩ = some (.slice Av V.length cv) /\ wy.cell? ⟨b, 0, none⟩ = some (.string d.name) /\ wy.cell? ⟨b, 1, none⟩ = some (.int .i64 u.kind) /\ wy.cell? ⟨b, 2, none⟩ = some (.string u.pkg) /\ wy.cell? ⟨b, 3, none⟩ = some (.int .i64 u.major) /\ wy.cell? ⟨b, 4, none⟩ = some (.string u.mod) /\ wy.cell? ⟨b, 5, none⟩ = some (.string u.name) /\ wy.cell? ⟨b, 6, none⟩ = some (.slice Un u.names.length cU) /\ wy.cell? ⟨b, 7, none⟩ = some (.slice Us u.subs.length dU) := ⟨y4, z0, z1, z2, z3, z4, z5, z6, z7⟩;go_upto_region 7 with fail
     have KP : Hid (∀ wx, Below wy.heap.size wy wx -> wx.cell? ⟨bx, 4, none⟩ = some (.slice Av V.length cv) /\ wx.cell? ⟨b, 0, none⟩ = some (.string d.name) /\ wx.cell? ⟨b, 1, none⟩ = some (.int .i64 u.kind) /\ wx.cell? ⟨b, 2, none⟩ = some (.string u.pkg) /\ wx.cell? ⟨b, 3, none⟩ = some (.int .i64 u.major) /\ wx.cell? ⟨b, 4, none⟩ = some (.string u.mod) /\ wx.cell? ⟨b, 5, none⟩ = some (.string u.name) /\ wx.cell? ⟨b, 6, none⟩ = some (.slice Un u.names.length cU) /\ wx.cell? ⟨b, 7, none⟩ = some (.slice Us u.subs.length dU)) := hZ (fun wx hb => by
      have e := fun (a : Addr) (v : Value) (hv : wy.cell? a = some v) => (hb.cell (p := a) (World.block_lt_of_cell? _ _ hv)).trans hv
      exact ⟨e _ _ S0.1, e _ _ S0.2.1, e _ _ S0.2.2.1, e _ _ S0.2.2.2.1, e _ _ S0.2.2.2.2.1, e _ _ S0.2.2.2.2.2.1, e _ _ S0.2.2.2.2.2.2.1, e _ _ S0.2.2.2.2.2.2.2.1, e _ _ S0.2.2.2.2.2.2.2.2⟩)
     have hH0 := KP.out wy.drew (Below.drew (Below.refl _ _));refine AnyX.start (fun wx => wx.cell? ⟨bx, 4, none⟩ = some (.slice Av V.length cv) /\ wx.cell? ⟨b, 0, none⟩ = some (.string d.name) /\ wx.cell? ⟨b, 1, none⟩ = some (.int .i64 u.kind) /\ wx.cell? ⟨b, 2, none⟩ = some (.string u.pkg) /\ wx.cell? ⟨b, 3, none⟩ = some (.int .i64 u.major) /\ wx.cell? ⟨b, 4, none⟩ = some (.string u.mod) /\ wx.cell? ⟨b, 5, none⟩ = some (.string u.name) /\ wx.cell? ⟨b, 6, none⟩ = some (.slice Un u.names.length cU) /\ wx.cell? ⟨b, 7, none⟩ = some (.slice Us u.subs.length dU)) (fun k => decide (7 <= k)) (by kernel_rfl) ?_;refine AnyX.mv (i := 0) (v := ?_) rfl (fun _ _ _ h => h) (Or.inl ⟨by rfl, ?_⟩) ?_;rotate_left
     ·(intro wS _; go_simp; try with_reducible rfl)
     simp only [getElem_toArray, getElem_cons_succ, getElem_cons_zero];simp only [Act.put, setIfInBounds_toArray];simp only [set_cons_zero, set_cons_succ];refine AnyX.mv (i := 1) (v := ?_) rfl (fun _ _ _ h => h) (Or.inl ⟨by rfl, ?_⟩) ?_;rotate_left
     ·(intro wS _; go_simp; try with_reducible rfl)
     simp only [getElem_toArray, getElem_cons_succ, getElem_cons_zero];simp only [Act.put, setIfInBounds_toArray];simp only [set_cons_zero, set_cons_succ];refine AnyX.mv (i := 2) (v := ?_) rfl (fun _ _ _ h => h) (Or.inl ⟨by rfl, ?_⟩) ?_;rotate_left
     ·(intro wS _; go_simp; try with_reducible rfl)
     simp only [getElem_toArray, getElem_cons_succ, getElem_cons_zero];simp only [Act.put, setIfInBounds_toArray];simp only [set_cons_zero, set_cons_succ];refine AnyX.mv (i := 3) (v := ?_) rfl (fun _ _ _ h => h) (Or.inl ⟨by rfl, ?_⟩) ?_;rotate_left
     ·(intro wS _; go_simp; try with_reducible rfl)
     simp only [getElem_toArray, getElem_cons_succ, getElem_cons_zero];simp only [Act.put, setIfInBounds_toArray];simp only [set_cons_zero, set_cons_succ];refine AnyX.tk (i := 4) (v := ?_) rfl (fun _ _ _ h => h) hH0 (Or.inl ⟨by rfl, ?_⟩) ?_;rotate_left
     ·(intro wS hS; (try obtain ⟨m0, c0, c1, c2, c3, c4, c5, c6, c7⟩ := hS); go_simp; try with_reducible rfl)
     simp only [getElem_toArray, getElem_cons_succ, getElem_cons_zero];simp only [Act.put, setIfInBounds_toArray];simp only [set_cons_zero, set_cons_succ];refine AnyX.tk (i := 5) (v := ?_) rfl (fun _ _ _ h => h) hH0 (Or.inl ⟨by rfl, ?_⟩) ?_;rotate_left
     ·(intro wS hS; (try obtain ⟨m0, c0, c1, c2, c3, c4, c5, c6, c7⟩ := hS); go_simp; try with_reducible rfl)
     simp only [getElem_toArray, getElem_cons_succ, getElem_cons_zero];simp only [Act.put, setIfInBounds_toArray];simp only [set_cons_zero, set_cons_succ];obtain ⟨w1, hw1⟩ : ∃ w1 : World, w1 = wy.drew := ⟨_, rfl⟩;rw [<- hw1];have hbd : Below wy.heap.size wy w1 := by rw [hw1]; exact Below.drew (Below.refl _ _)
     have HI1 := HI.out.keep hbd;have HU1 : nmE (strike (fun k => k < B) w1) [.string d.name, .int .i64 u.kind, .string u.pkg, .int .i64 u.major, .string u.mod, .string u.name, .slice Un u.names.length cU, .slice Us u.subs.length dU] ⟨d.name, u⟩ := nmR.move _ _ _ _ _ _ HUy.out hbd.size fun k hk hS => ⟨hS, hbd.block k hk⟩
     have hs1 := hbd.size;clear hw1 hH0;refine AnyX.go 6 (by kernel_rfl) rfl rfl (fun K hK => ?_);simp only [getElem_toArray, getElem_cons_succ, getElem_cons_zero];go_simp
     refine hK.out _ _ (fun hoff _ => KP.out _ (below_new hbd _)) ?_;clear hK;(try simp only [Act.put, setIfInBounds_toArray]);(try simp only [set_cons_zero, set_cons_succ]);obtain ⟨C, hC1, hown, hC4⟩ := HI1.vals.cells;have hown : w1.ownsRow (bx + 1) 49 8 (.slice Av V.length cv) V.length C.flatten := hown;obtain ⟨inf, hi1, hy0, hy1, hy2⟩ := info_parts nm_infoF;have hMX : V.length + 1 <= maxLen := by unfold maxLen; omega
     have hAL : ∀ oo, bx + 1 <= (w1.alloc oo).heap.size := fun oo => by have e1 : (w1.alloc oo).heap.size = w1.heap.size + 1 := (by simp); omega
     refine AnyX.go 7 (by kernel_rfl) rfl rfl (fun K hK => ?_);simp only [getElem_toArray, getElem_cons_succ, getElem_cons_zero];refine wp_append_lies _ (.tmp 33) (.tmp 35) 30 rfl (bx + 1) 49 inf _ 8 128 Tryz.underlying30 hi1 hy0 hy1 hy2 (by rfl) (Nat.zero_lt_succ 7) (.slice Av V.length cv) V.length _ rfl (hown.alloc _) ⟨w1.heap.size, 0, none⟩ 1 1 [.string d.name, .int .i64 u.kind, .string u.pkg, .int .i64 u.major, .string u.mod, .string u.name, .slice Un u.names.length cU, .slice Us u.subs.length dU] rfl rfl (fun q u hq => by rw [WideShapes.add_plain, Nat.zero_add, cZ (heap_alloc_new w1 _), <- hq, <- List.getElem?_toArray]) (fun u hu => by simp at hu; rcases hu with rfl | rfl | rfl | rfl | rfl | rfl | rfl | rfl <;> rfl) Nat.one_pos hMX (by omega) (hAL _) _ rfl ?_;intro gb cap w3 hown3 hgrow hat hlt3;obtain ⟨NEW, bel9, z9, e9⟩ := HI1.val hw HU1 hB (by omega) HOB.out.1 HOB.out.2 hC1 hC4 hown3 hgrow hat;refine hK.out _ _ (fun hoff _ => absurd hoff (by decide)) ?_;clear hK;(try simp only [Act.put, setIfInBounds_toArray]);(try simp only [set_cons_zero, set_cons_succ]);refine AnyX.mv (i := 8) (v := ?_) rfl (fun _ _ _ h => h) (Or.inl ⟨by rfl, ?_⟩) ?_;rotate_left
     ·(intro wS _; go_simp; try with_reducible rfl)
     simp only [getElem_toArray, getElem_cons_succ, getElem_cons_zero];simp only [Act.put, setIfInBounds_toArray];simp only [set_cons_zero, set_cons_succ];refine AnyX.mv (i := 9) (v := ?_) rfl (fun _ _ _ h => h) (Or.inl ⟨by rfl, ?_⟩) ?_;rotate_left
     ·(intro wS _; go_simp; try with_reducible rfl)
     simp only [getElem_toArray, getElem_cons_succ, getElem_cons_zero];simp only [Act.put, setIfInBounds_toArray];simp only [set_cons_zero, set_cons_succ];refine AnyX.go 10 (by kernel_rfl) rfl rfl (fun K hK => ?_);simp only [getElem_toArray, getElem_cons_succ, getElem_cons_zero];go_simp
     refine hK.out _ _ (fun hoff _ => absurd hoff (by decide)) ?_;clear hK;(try simp only [Act.put, setIfInBounds_toArray]);(try simp only [set_cons_zero, set_cons_succ]);refine AnyX.done (by kernel_rfl) ?_ _;clear y4 z0 z1 z2 z3 z4 z5 z6 z7 S0;have RES := hZ NEW;go_wp2_with fail
     go_end0
     exact ⟨rfl, _, _, _, _, by rw [HK.out, HKV.out]; simpa using RES.out⟩
    | false =>
     go_wp2_with fail
     go_end0
     exact ⟨rfl, At, ct, Av, cv, by rw [HK.out, HKV.out]; simpa using HI.out⟩
theorem nan10_any (s : ByteArray) (w : World) : Calls Tryz.prog 98 #[.string s] w fun e w' => e = .returned (.bool false) /\ w = w' := by
  have h : (s.toList == s.toList) = true := by simp
  have h2 : (!(s.toList == s.toList)) = false := by rw [h]; rfl
  go_enter Tryz.func98, Tryz.ntmps98
  go_wp2_with fail
  go_ret;exact ⟨by first | rfl | exact ret_bool (by simp), rfl⟩
def cmpB (a b : ByteArray) : Int := if Op.bytesLess a.toList b.toList = true then -1 else if Op.bytesLess b.toList a.toList = true then 1 else 0
theorem compare10_any (a b : ByteArray) (w : World) : Calls Tryz.prog 54 #[.string a, .string b] w fun e w' => e = .returned (.int .i64 (cmpB a b)) /\ w = w' := by
  obtain ⟨v1, h1⟩ : ∃ v, Op.bytesLess a.toList b.toList = v := ⟨_, rfl⟩;obtain ⟨v2, h2⟩ : ∃ v, Op.bytesLess b.toList a.toList = v := ⟨_, rfl⟩;have hc : cmpB a b = if v1 = true then -1 else if v2 = true then 1 else 0 := by unfold cmpB; rw [h1, h2]
  have h3 : v1 = false -> (a.toList == b.toList) = !v2 := fun e => by
    have := leL a.toList b.toList
    rw [h1, e, h2] at this;simpa using this
  rw [hc];have H3 := hZ h3;clear hc h3;cases v1 with
  | true =>
    go_enter Tryz.func54, Tryz.ntmps54
    go_wp2_with fail
    refine (nan10_any _ _).mono ?_; rintro e w' ⟨rfl, rfl⟩
    go_wp2_with fail
    refine (nan10_any _ _).mono ?_; rintro e w' ⟨rfl, rfl⟩
    go_wp2_with fail
    go_ret;exact ⟨rfl, rfl⟩
  | false =>
    have e3 := H3.out rfl;cases v2 with
    | true =>
      have e4 : (!(a.toList == b.toList)) = true := by rw [e3]; rfl
      go_enter Tryz.func54, Tryz.ntmps54
      go_wp2_with fail
      refine (nan10_any _ _).mono ?_; rintro e w' ⟨rfl, rfl⟩
      go_wp2_with fail
      refine (nan10_any _ _).mono ?_; rintro e w' ⟨rfl, rfl⟩
      go_wp2_with fail
      go_ret;exact ⟨rfl, rfl⟩
    | false =>
      have e4 : (!(a.toList == b.toList)) = false := by rw [e3]; rfl
      go_enter Tryz.func54, Tryz.ntmps54
      go_wp2_with fail
      refine (nan10_any _ _).mono ?_; rintro e w' ⟨rfl, rfl⟩
      go_wp2_with fail
      refine (nan10_any _ _).mono ?_; rintro e w' ⟨rfl, rfl⟩
      go_wp2_with fail
      go_ret;exact ⟨rfl, rfl⟩
def cmpV (x y : Nv) : Int := cmpB x.s y.s
theorem ltV (x y : Nv) : ltOf cmpV x y = Op.bytesLess x.s.toList y.s.toList := by
  unfold ltOf cmpV cmpB
  cases h1 : Op.bytesLess x.s.toList y.s.toList with
  | true => simp
  | false => cases h2 : Op.bytesLess y.s.toList x.s.toList <;> simp
theorem swoV : SWO (ltOf cmpV) where
  irrefl x := by rw [ltV]; exact bl_irrefl _
  trans x y z h1 h2 := by rw [ltV] at *; exact bl_trans _ _ _ h1 h2
  ntrans x y z h1 h2 := by rw [ltV] at *; exact bl_ntrans _ _ _ h1 h2
theorem byName_any (x y : Nv) (W : World) : Calls Tryz.prog 21 #[.agg x.enc.toArray, .agg y.enc.toArray] W fun e w' => e = .returned (.int .i64 (cmpV x y)) /\ ∃ q os', w' = grow (W.drewN q) os' := by
  have hcon := fun W' => compare10_any x.s y.s W'
  unfold cmpV
  generalize cmpB x.s y.s = r at hcon ⊢
  unfold Nv.enc
  go_enter Tryz.func21, Tryz.ntmps21
  go_wp2_with fail
  refine (hcon _).mono ?_; rintro e w' ⟨rfl, rfl⟩
  go_wp2_with fail
  go_ret;exact ⟨rfl, 0, _, by rw [alloc_eq_grow, alloc_eq_grow, grow_grow]; rfl⟩
theorem nv_of {w : World} {l : List Value} {x : Nm} (h : nmE w l x) : ∃ v : Nv, l = v.enc /\ v.s = x.name := by
  obtain ⟨-, l7, rfl, hT⟩ := h;obtain ⟨Bn, cB, Bs, dB, rfl, -⟩ := hT.parts;exact ⟨⟨x.name, x.typ.kind, x.typ.pkg, x.typ.major, x.typ.mod, x.typ.name, Bn, x.typ.names.length, cB, Bs, x.typ.subs.length, dB⟩, rfl, rfl⟩
theorem row_lift : ∀ (C : List (List Value)) (xs : List Nm), C.length = xs.length -> (∀ (i : Nat) (l : List Value) (x : Nm), C[i]? = some l -> xs[i]? = some x -> ∃ v : Nv, l = v.enc /\ v.s = x.name) ->
    ∃ P : List (Nv × Nm), P.map (fun p => p.1.enc) = C /\ P.map (·.2) = xs /\ ∀ p ∈ P, p.1.s = p.2.name
  | [], [], _, _ => ⟨[], rfl, rfl, fun p h => by cases h⟩
  | [], _ :: _, h, _ => by simp at h
  | _ :: _, [], h, _ => by simp at h
  | l :: C, x :: xs, h, hh => by
    obtain ⟨P, h1, h2, h3⟩ := row_lift C xs (by simpa using h) (fun i l x hl hx => hh (i + 1) l x (by simpa using hl) (by simpa using hx));obtain ⟨v, e1, e2⟩ := hh 0 l x rfl rfl;refine ⟨(v, x) :: P, by rw [List.map_cons, h1, e1], by rw [List.map_cons, h2], fun p hp => ?_⟩;rcases List.mem_cons.1 hp with rfl | hp
    · exact e2
    · exact h3 p hp
theorem enc_at : ∀ (P : List (Nv × Nm)) (i q : Nat) (p : Nv × Nm), P[i]? = some p -> q < 8 -> ((P.map fun p => p.1.enc).flatten)[i * 8 + q]? = p.1.enc[q]?
  | [], i, q, x, h, _ => by simp at h
  | y :: P, 0, q, x, h, hq => by
    simp at h; subst h
    rw [List.map_cons, List.flatten_cons, List.getElem?_append_left (by rw [y.1.len]; omega)];simp
  | y :: P, i + 1, q, x, h, hq => by
    have h' : P[i]? = some x := by simpa using h
    have := enc_at P i q x h' hq
    rw [List.map_cons, List.flatten_cons, List.getElem?_append_right (by rw [y.1.len]; omega), y.1.len, show (i + 1) * 8 + q - 8 = i * 8 + q by omega];exact this
theorem sortB_any {S : Nat -> Prop} {lo : Nat} {xs : List Nm} {A : Option Addr} {c : Nat} {w : World} (h : RowB nmR S lo xs A c w) (hS : ∀ b, (Value.slice A xs.length c).ownBlock = some b -> ¬ S b) (hz : xs.length <= 1000000) :
    Calls Tryz.prog 20 #[.slice A xs.length c, .func (.func 21) #[] #[]] w fun e w' => e = .returned (.tuple #[]) /\ ∃ xs' : List Nm, xs'.Perm xs /\ xs'.Pairwise upNm /\ w.grownBy w' (Value.slice A xs.length c).ownBlock /\ RowIn nmR (strike S w') A xs' := by
  obtain ⟨C, hC1, hown, hC4⟩ := h.cells;have eg : ∀ args w, (callFunc 21 args).run Tryz.prog w = .ok (.enter 21 args) w := enters_of Tryz.func21 (by kernel_rfl) rfl;obtain ⟨n, hn⟩ : ∃ n, n = xs.length := ⟨_, rfl⟩;rcases hown.2 with ⟨e0, h0⟩ | ⟨g, cap, cur, hv, hB, hg, hnc, hcm, hcs, htake⟩
  · have hx0 : xs = [] := List.length_eq_zero_iff.1 h0
    subst hx0;have hno := AnyF.slices_SortFunc_none Tryz.sortNamed A c (.func (.func 21) #[] #[]) w;change Calls Tryz.prog 20 _ _ _ at hno
    refine hno.mono ?_;rintro e w' ⟨rfl, rfl⟩;exact ⟨rfl, [], List.Perm.refl _, List.Pairwise.nil, ⟨rfl, rfl, rfl, Nat.le_refl _, fun _ _ _ => rfl⟩, fun i x hx => by simp at hx⟩
  have hgl := (Array.getElem?_eq_some_iff.1 hg).1;have hgS := hS g (by rw [hv]; rfl);obtain ⟨P, hP1, hP2, hP3⟩ := row_lift C xs hC1 (fun i l x hl hx => nv_of (hC4 i l x hl hx));have hl : P.length = n := by rw [hn, <- hP2, List.length_map]
  obtain ⟨d, hd⟩ : ∃ d : Array Nv, d = (P.map (·.1)).toArray := ⟨_, rfl⟩;have hds : d.size = n := by rw [hd]; simp [hl]
  have htake' : cur.toList.take (n * 8) = (P.map fun p => p.1.enc).flatten := by rw [hP1, hn]; exact htake
  have hH : HoldsK Nv.enc 8 w g 0 d := by
    intro j hj;rw [size_flatK] at hj;refine ⟨?_, Lib.frozen_of_heap hg _⟩;rw [get_flatK _ _ _ _ hj, cZ hg, <- Array.getElem?_toList];have hi : j / 8 < P.length := by omega
    have hx : P[j / 8]? = some P[j / 8] := List.getElem?_eq_getElem hi;have e1 := enc_at P (j / 8) (j % 8) _ hx (by omega);rw [<- htake', List.getElem?_take, show j / 8 * 8 + j % 8 = j by omega, if_pos (by omega)] at e1;rw [Nat.zero_add, e1];have e2 : d[j / 8]! = P[j / 8].1 := by rw [hd]; simp [hi]
    rw [e2];have hq : j % 8 < (P[j / 8].1.enc).length := by rw [Nv.len]; omega
    rw [List.getElem?_eq_getElem hq];simp [hq]
  obtain ⟨rfl, rfl⟩ : A = some ⟨g, 0, none⟩ /\ c = cap := by simp at hv; exact ⟨hv.1, hv.2⟩
  have hcon := AnyQ.slices_SortFunc Tryz.sortNamed 8 Tryz.isAgg49 Tryz.sizeOf49 Nv.enc Nv.len Nv.one cmpV swoV 21 #[] g 0 c d w eg (fun _ _ _ _ x y => byName_any x y _) hH hgl (by omega);change Calls Tryz.prog 20 _ _ _ at hcon
  rw [hds, hn] at hcon;refine hcon.mono fun e w' ⟨he, d', m, os, hp, hs, hw⟩ => ⟨he, ?_⟩
  rw [<- hn] at hp hs;obtain ⟨hp1, -, hp3⟩ := hp;have hd's : d'.size = n := by omega
  have hperm : d'.toList.Perm (P.map (·.1)) := by
    have e1 : d'.extract 0 n = d' := by rw [<- hd's]; exact Array.extract_size
    have e2 : d.extract 0 n = d := by rw [<- hds]; exact Array.extract_size
    rw [e1, e2] at hp3;rw [hd] at hp3;simpa using hp3
  obtain ⟨P', hP', hm⟩ := perm_lift (fun x : Nv × Nm => x.1) hperm;have hlen' : P'.length = n := by rw [hP'.length_eq]; exact hl
  have hat : ∀ k x, P'[k]? = some x -> k < n /\ d'[k]! = x.1 := fun k x hx => by
    have hk := (List.getElem?_eq_some_iff.1 hx).1;refine ⟨by omega, ?_⟩;have : d'.toList[k]? = some x.1 := by rw [<- hm, List.getElem?_map, hx]; rfl
    rw [Array.getElem?_toList] at this;rw [Array.getElem!_eq_getD, Array.getD_eq_getD_getElem?, this]; rfl
  have hH' := holdsK_sortWorldK_c Nv.enc 8 w g 0 d d' m os hH hgl (by omega)
  have hgr : w.grownBy w' (some g) := by rw [hw]; exact grown_sortedN d'
  have hsz := hgr.size;refine ⟨P'.map (·.2), ?_, ?_, hgr, fun i x hx => ?_⟩
  · rw [<- hP2]; exact hP'.map _
  · refine List.pairwise_iff_getElem.2 fun i j hi hj hij => ?_
    have hi' : i < P'.length := by simpa using hi
    have hj' : j < P'.length := by simpa using hj
    have := hs i j (Nat.zero_le _) hij (by omega)
    rw [ltV, (hat j _ (List.getElem?_eq_getElem hj')).2, (hat i _ (List.getElem?_eq_getElem hi')).2] at this;have n1 := hP3 _ (hP'.mem_iff.1 (List.getElem_mem hi'));have n2 := hP3 _ (hP'.mem_iff.1 (List.getElem_mem hj'));show Op.bytesLess _ _ = false
    rw [List.getElem_map, List.getElem_map, <- n1, <- n2];simpa using this
  · obtain ⟨p, hp⟩ : ∃ p, P'[i]? = some p /\ p.2 = x := by
      rw [List.getElem?_map] at hx;cases hq : P'[i]? with
      | none => rw [hq] at hx; simp at hx
      | some p => rw [hq] at hx; exact ⟨p, rfl, by simpa using hx⟩
    obtain ⟨hp, rfl⟩ := hp;obtain ⟨hk, he⟩ := hat i p hp;obtain ⟨j, hj⟩ := List.getElem?_of_mem (hP'.mem_iff.1 (List.mem_of_getElem? hp));have hCj : C[j]? = some p.1.enc := by rw [<- hP1, List.getElem?_map, hj]; rfl
    have hxj : xs[j]? = some p.2 := by rw [<- hP2, List.getElem?_map, hj]; rfl
    have hE := hC4 j _ _ hCj hxj;refine ⟨g, 0, p.1.enc, rfl, by rw [strike_size]; omega, fun q v hv' => strike_cell.2 ⟨hgS, ?_⟩, nmR.move _ _ _ _ _ _ hE hsz fun b hb hSb => ⟨fun e => hSb (.inl e), ?_⟩⟩
    · have hq : q < 8 := by have := (List.getElem?_eq_some_iff.1 hv').1; rwa [p.1.len] at this
      rw [hw];have := (hH'.cell (i := i) (c := q) (by omega) hq).1
      rw [he] at this;show World.cell? _ ⟨g, 0 + i * 8 + q, none⟩ = _
      rw [this];obtain ⟨hq', e⟩ := List.getElem?_eq_some_iff.1 hv';simp [hq', e]
    · exact hgr.block b hb (fun e => hSb (.inr e.symm))
end Go.Proofs.YtcdmgcgjonndpaaGreatDoor
