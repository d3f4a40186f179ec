/-
  Several texts in one.
-/
import Derived.Test.YtddlmigofilejaaGreatDoorK08
open List (getElem_toArray getElem_cons_succ getElem_cons_zero set_cons_zero set_cons_succ setIfInBounds_toArray)
set_option maxRecDepth 100000
set_option maxHeartbeats 4000000
namespace Go.Proofs.YtddlmigofilejaaGreatDoor
open Go.RowKit
open Go.Sort
open M
theorem one_hne {S : Toks} {g d i c : Nat} {ss : List Ty} (h : ∀ j, pSubs S (g + 1) d i c ss ≠ .err 99 j) : ∀ j, oneR S g d i c ss.length ≠ .err 99 j := fun j e => h j (by rw [subs_eq, e])
theorem end_hne {S : Toks} {g d i c : Nat} {ss : List Ty} (h : ∀ j, pEnd S (g + 1) d i c ss ≠ .err 99 j) : psB 0 (S.sign i [45, 62]) = 0 -> ∀ j, oneR S g d (psI 0 (S.sign i [45, 62]) i) c ss.length ≠ .err 99 j := fun hq j e => h j (by
 rw [end_eq]
 by_cases hs : S.sign i [45, 62] = false
 ·rw [hs] at hq; cases hq
 ·rw [if_neg hs]
  have : S.sign i [45, 62] = true := by simpa using hs
  rw [this, psI_yes] at e;rw [e])
theorem GrR.more {w : World} {r : Nat} {A : Option Addr} {n cn : Nat} {ns : List ByteArray} {n5 : Nat} {A5 : Option Addr} {c5 : Nat} {ss : List Ty} {n6 : Nat} {A6 : Option Addr} {c6 g cap lo : Nat} {wo w1 w3 : World} {o : Obj} {l : List Value} {t : Ty} {C : List (List Value)}
  (h : GrR lo ns n5 ss n6 (.slice A5 n5 c5) (.slice A6 n6 c6) w1) (hlo : lo <= wo.heap.size) (hz : wo.heap.size <= w1.heap.size) (hwo : ∀ b, (Value.slice A5 n5 c5).ownBlock = some b \/ (Value.slice A6 n6 c6).ownBlock = some b -> b < wo.heap.size)
  (hC1 : C.length = n6) (hC2 : ∀ l, l ∈ C -> l.length = 7) (hC4 : ∀ (i : Nat) (l : List Value) (t : Ty), C[i]? = some l -> ss[i]? = some t -> GrT lo (.slice A5 n5 c5) (.slice A6 n6 c6) w1 l t) (hl : l.length = 7)
  (hT : TyAt (strike (· < wo.heap.size) w1) l t) (hown : w3.ownsRow lo 48 7 (.slice (some ⟨g, 0, none⟩) (n6 + 1) cap) (n6 + 1) (C.flatten ++ l)) (hgrow : (w1.alloc o).grownBy w3 (Value.slice A6 n6 c6).ownBlock)
  (hat : (Value.slice A6 n6 c6).ownBlock = some g \/ g = (w1.alloc o).heap.size) {B : Nat} (hB : B < lo) (hrB : r ≠ B) (hrlo : r < lo) {u0 u1 u2 u3 u4 u5 u6 : Value} (hbox : w1.heap[B]? = some (.cells #[u0, u1, u2, u3, u4, u5, u6] 48 (0, 0)))
  (hR : ∃ i c b, Rd r A n cn i c b w1) (hK : Kp r w w1) (hw : w.heap.size <= B) :
  GrR lo ns n5 (ss ++ [t]) (n6 + 1) (.slice A5 n5 c5) (.slice (some ⟨g, 0, none⟩) (n6 + 1) cap) (w3.setCell ⟨B, 6, none⟩ (.slice (some ⟨g, 0, none⟩) (n6 + 1) cap)) /\
  (w3.setCell ⟨B, 6, none⟩ (.slice (some ⟨g, 0, none⟩) (n6 + 1) cap)).heap[B]? = some (.cells #[u0, u1, u2, u3, u4, u5, .slice (some ⟨g, 0, none⟩) (n6 + 1) cap] 48 (0, 0)) /\
  Kp r w (w3.setCell ⟨B, 6, none⟩ (.slice (some ⟨g, 0, none⟩) (n6 + 1) cap)) /\ (∀ b, b < lo -> b ≠ B -> (w3.setCell ⟨B, 6, none⟩ (.slice (some ⟨g, 0, none⟩) (n6 + 1) cap)).heap[b]? = w1.heap[b]?) /\
  w3.cell? ⟨B, 6, none⟩ = some u6 /\ w3.frozen? ⟨B, 6, none⟩ = false /\ w1.heap.size <= (w3.setCell ⟨B, 6, none⟩ (.slice (some ⟨g, 0, none⟩) (n6 + 1) cap)).heap.size := by
 have hlow : ∀ b, (Value.slice A6 n6 c6).ownBlock = some b -> lo <= b := fun b e => by
  obtain ⟨C', -, -, h3, -⟩ := h.subs;exact (h3.lt b e).1
 have hGT : GrT lo (.slice A5 n5 c5) (.slice A6 n6 c6) w1 l t := TyAt.move hT (Nat.le_refl _) fun b hlt hS => ⟨by
  rintro (e | e | e)
  ·omega
  ·have := hwo b (.inl e); omega
  ·have := hwo b (.inr e); omega, rfl⟩
 have R3 := h.addSub hC1 hC2 hC4 hl hGT hown rfl hgrow hat
 have hsz : (w1.alloc o).heap.size = w1.heap.size + 1 := by simp
 have hsz3 := hgrow.size
 have old3 : ∀ b, b < lo -> w3.heap[b]? = w1.heap[b]? := fun b hb => by
  rw [hgrow.block b (by omega) (fun e => by have := hlow b e.symm; omega)];exact Lib.alloc_old w1 o b (by omega)
 have hb3 := (old3 B hB).trans hbox
 refine ⟨R3.keep (by simp) (fun b hb _ => Below.heap_setCell _ _ _ _ (by show b ≠ B; omega)), ?_, ?_, fun b hb hne => (Below.heap_setCell _ _ _ _ (by show b ≠ B; omega)).trans (old3 b hb), cZ hb3 6, Lib.frozen_of_heap hb3 6, by simp; omega⟩
 ·have := Joins.block_setCell (i := 6) hb3 (.slice (some ⟨g, 0, none⟩) (n6 + 1) cap); simpa using this
 ·refine Kp.putNew ((hK.alloc o).grow hgrow fun b e => ?_) _ hw _
  have := hlow b e; omega
theorem fn_ok {W : World} {r : Nat} {A : Option Addr} {S : Toks} {cn f : Nat} (hTy : ∀ g, g < f -> TypeOk W r A S cn g) : FnOk W r A S cn f := by
 intro d i c w hd hc5 hc h hne
 have hbig := hc.big
 have hr := h.lt
 obtain ⟨W1, hW1⟩ : ∃ W1, W1 = (w.alloc (.cells #[.int .i64 0, .string ⟨#[]⟩, .int .i64 0, .string ⟨#[]⟩, .string ⟨#[]⟩, .slice none 0 0, .slice none 0 0] 48)).alloc (.cells #[.int .i64 7, .string ⟨#[]⟩, .int .i64 0, .string ⟨#[]⟩, .string ⟨#[]⟩, .slice none 0 0, .slice none 0 0] 48) := ⟨_, rfl⟩
 have B1 : Below w.heap.size w W1 := by rw [hW1]; exact below_new (below_new (Below.refl _ _) _) _
 have s1 : W1.heap.size = w.heap.size + 2 := by rw [hW1]; simp
 have X1 : W1.heap[w.heap.size]? = some (.cells #[.int .i64 0, .string ⟨#[]⟩, .int .i64 0, .string ⟨#[]⟩, .string ⟨#[]⟩, .slice none 0 0, .slice none 0 0] 48 (0, 0)) := by rw [hW1, Lib.alloc_old _ _ _ (by simp)]; exact heap_alloc_new w _
 have O1 : W1.heap[w.heap.size + 1]? = some (.cells #[.int .i64 7, .string ⟨#[]⟩, .int .i64 0, .string ⟨#[]⟩, .string ⟨#[]⟩, .slice none 0 0, .slice none 0 0] 48 (0, 0)) := by
  rw [hW1];have e : w.heap.size + 1 = (w.alloc (.cells #[.int .i64 0, .string ⟨#[]⟩, .int .i64 0, .string ⟨#[]⟩, .string ⟨#[]⟩, .slice none 0 0, .slice none 0 0] 48)).heap.size := by simp
  rw [e]; exact heap_alloc_new _ _
 have C1 := hc.on (Kp.of_below B1) hr
 have R1 := h.on B1
 have IS := zH (is0 C1 R1 ⟨#[41]⟩)
 have HX1 := zH X1
 have HO1 := zH O1
 have HR1 := zH R1
 have HB1 := zH B1
 have HW1 := zH hW1
 have HC0 := zH hc
 have HTy := zH hTy
 have hf : 0 < f := by
  rcases Nat.eq_zero_or_pos f with rfl | hf
  ·exfalso
   refine hne 0 ?_;unfold fnR
   split
   ·unfold pEnd; rfl
   ·unfold pSubs; rfl
  ·exact hf
 clear hc h B1 X1 O1 C1 R1 hW1 hTy
 obtain ⟨F, hF⟩ : ∃ F, F = fnR S f d i c := ⟨_, rfl⟩
 rw [<- hF]
 have HF := zH hF
 have HNE : Hid (∀ j, F ≠ .err 99 j) := zH (fun j => by rw [hF]; exact hne j)
 clear hF hne
 go_enter Tryz.func135, Tryz.ntmps135
 go_wp2_with fail
 rw [<- HW1.out]
 refine IS.out.mono ?_; rintro e w2 ⟨rfl, hb2⟩
 obtain ⟨q, hq⟩ : ∃ q, S.sign i (ByteArray.mk #[41]).data.toList = q := ⟨_, rfl⟩
 rw [hq]
 have HQ : Hid (S.sign i [41] = q) := zH hq
 clear hq
 have hs2 := hb2.size
 have K2 : Kp r w w2 := (Kp.of_below HB1.out).trans (Kp.of_below hb2)
 have R2 := HR1.out.on hb2
 have X2 : w2.heap[w.heap.size]? = _ := (hb2.block _ (by omega)).trans HX1.out
 have O2 : w2.heap[w.heap.size + 1]? = _ := (hb2.block _ (by omega)).trans HO1.out
 have r1 := R2.c1
 have f1 := R2.f 1
 have hr2 : r < w2.heap.size := R2.lt
 have RW0 := GrR.start (w.heap.size + 2) w2
 have I0 : Hid (S.sign i [41] = false -> FnI w r A S cn d f F [] 0 none 0 i c 0 f true w2) := zH (fun hq => ⟨K2, O2, X2, RW0, R2, by rw [HF.out, badR_0]; unfold fnR; rw [if_neg (by rw [hq]; decide), if_pos rfl], Nat.le_refl _, by omega, fun _ => by omega, hc5⟩)
 have I1 : Hid (S.sign i [41] = true -> FnI w r A S cn d f F [] 0 none 0 (i + 1) c 0 f false (w2.setCell ⟨r, 1, none⟩ (.int .i64 ((i : Int) + 1)))) := zH (fun hq => by
  have R3 := R2.at (i + 1);have ot : ∀ b, b ≠ r -> (w2.setCell ⟨r, 1, none⟩ (.int .i64 ((i : Int) + 1))).heap[b]? = w2.heap[b]? := fun b hb => Below.heap_setCell _ _ _ _ hb
  refine ⟨K2.put 1 _, (ot _ (by omega)).trans O2, (ot _ (by omega)).trans X2, RW0.keep (by simp) (fun b hb _ => ot b (by omega)), by simpa using R3, ?_, Nat.le_refl _, by omega, fun _ => by omega, hc5⟩;rw [HF.out, badR_0]; unfold fnR; rw [if_pos hq, if_neg (by decide)])
 have hi63 : S.sign i [41] = true -> (i : Int) + 1 <= 9223372036854775807 := fun hq => by have := sign_lt hq; omega
 have HI63 := zH hi63
 clear hb2 hs2 K2 R2 X2 O2 RW0 HX1 HO1 HR1 HB1 IS HF s1 HW1 hi63
 go_upto_if 9 with fail
 go_cut [6] (fun s6 wx => ∃ (mb : Bool) (i' : Nat), s6 = .bool mb /\ FnI w r A S cn d f F [] 0 none 0 i' c 0 f mb wx)
 case first =>
  cases q with
  | false =>
   have I := zH (I0.out HQ.out);clear I0 I1 HI63;go_wp2_with fail
   go_meet
   exact ⟨true, i, rfl, I.out⟩
  | true =>
   have I := zH (I1.out HQ.out);have h63 := HI63.out HQ.out;clear I0 I1 HI63;go_wp2_with fail
   go_meet
   exact ⟨false, i + 1, rfl, I.out⟩
 case rest =>
  obtain ⟨mb, i0, rfl, hI⟩ := hcut;have HI := zH hI;clear hI I0 I1 r1 f1 HI63;go_wp2_with fail
  go_loopw [6] (fun m wr => ∃ (mb : Bool) (ss : List Ty) (n6 : Nat) (A6 : Option Addr) (c6 i c b g : Nat), m = .bool mb /\ Hid (FnI w r A S cn d f F ss n6 A6 c6 i c b g mb wr)) (fun _ wr => rdM r S.n wr)
  case atStart => exact ⟨mb, [], 0, none, 0, i0, c, 0, f, rfl, HI⟩
  case round =>
   obtain ⟨mb, ss, n6, A6, c6, i, c, b, g, rfl, HI⟩ := hrel;obtain ⟨wo, rfl⟩ : ∃ wo : World, wo = wr := ⟨_, rfl⟩;have R := HI.out.rd;have r3 := R.c3;have hr0 := R.lt;by_cases hgo : mb = true /\ b = 0
   ·obtain ⟨rfl, rfl⟩ := hgo
    simp at r3;have hfin : F = pSubs S g d i c ss := by have := HI.out.fin; rw [badR_0, if_pos rfl] at this; exact this
    obtain ⟨g', rfl⟩ : ∃ g', g = g' + 1 := by
     cases g with
     | zero => exact absurd (by rw [hfin]; unfold pSubs; rfl) (HNE.out 0)
     | succ g' => exact ⟨g', rfl⟩
    have hfu := HI.out.fuel;have h20 := HI.out.most rfl;have hcnt := HI.out.cnt;have hl6 := HI.out.rows.len6;have C0 := HC0.out.on HI.out.kp hr
    have ONE : Hid (∀ w', Below wo.heap.size wo w' -> Calls Tryz.prog 174 #[.pointer (some ⟨r, 0, none⟩), .int .i64 n6, .int .i64 d] w' (TyOut w' r A S.n cn (badR 0 i (oneR S g' d i c n6)))) := zH (fun w' hb =>
     one_any (HTy.out g' (by omega)) d i c 0 n6 w' hd (by omega) hcnt (C0.on (Kp.of_below hb) hr0) (R.on hb) (fun _ => by rw [<- hl6]; exact one_hne (fun j => by rw [<- hfin]; exact HNE.out j)))
    have HFIN := zH hfin;have HL6 := zH hl6;have HBOX := zH HI.out.box;have HRES := zH HI.out.res;have HROWS := zH HI.out.rows;have HKP := zH HI.out.kp;have HRD := zH R;have y6 : wo.cell? ⟨w.heap.size + 1, 6, none⟩ = some (.slice A6 n6 c6) := cZ HI.out.box 6;have hB0 : w.heap.size + 1 < wo.heap.size := (Array.getElem?_eq_some_iff.1 HI.out.box).1;have hlo0 : w.heap.size + 2 <= wo.heap.size := by omega
    clear hfin hl6 C0 R HI;go_wp2_with fail
    clear r3;refine AnyX.start (fun wx => wx.cell? ⟨w.heap.size + 1, 6, none⟩ = some (.slice A6 n6 c6)) (fun k => k == 11) (by kernel_rfl) ?_;have hH0 : wo.drew.cell? ⟨w.heap.size + 1, 6, none⟩ = some (.slice A6 n6 c6) := by simpa using y6
    refine AnyX.mv (i := 0) (v := ?_) rfl (fun _ _ _ h => h) (Or.inl ⟨by rfl, ?_⟩) ?_;rotate_left
    ·(intro wS _; go_simp; try with_reducible rfl)
    simp only [getElem_toArray, getElem_cons_succ, getElem_cons_zero];simp only [Act.put, setIfInBounds_toArray, set_cons_zero, set_cons_succ];refine AnyX.tk (i := 1) (v := ?_) rfl (fun _ _ _ h => h) hH0 (Or.inl ⟨by rfl, ?_⟩) ?_;rotate_left
    ·(intro wS hS; (try obtain hc := hS); go_simp; try with_reducible rfl)
    simp only [getElem_toArray, getElem_cons_succ, getElem_cons_zero];simp only [Act.put, setIfInBounds_toArray, set_cons_zero, set_cons_succ];refine AnyX.mv (i := 2) (v := ?_) rfl (fun _ _ _ h => h) (Or.inl ⟨by rfl, ?_⟩) ?_;rotate_left
    ·(intro wS _; go_simp; try with_reducible rfl)
    simp only [getElem_toArray, getElem_cons_succ, getElem_cons_zero];simp only [Act.put, setIfInBounds_toArray, set_cons_zero, set_cons_succ];refine AnyX.mv (i := 3) (v := ?_) rfl (fun _ _ _ h => h) (Or.inl ⟨by rfl, ?_⟩) ?_;rotate_left
    ·(intro wS _; go_simp; try with_reducible rfl)
    simp only [getElem_toArray, getElem_cons_succ, getElem_cons_zero];simp only [Act.put, setIfInBounds_toArray, set_cons_zero, set_cons_succ];refine AnyX.tk (i := 4) (v := ?_) rfl (fun _ _ _ h => h) hH0 (Or.inl ⟨by rfl, ?_⟩) ?_;rotate_left
    ·(intro wS hS; (try obtain hc := hS); go_simp; try with_reducible rfl)
    simp only [getElem_toArray, getElem_cons_succ, getElem_cons_zero];simp only [Act.put, setIfInBounds_toArray, set_cons_zero, set_cons_succ];refine AnyX.mv (i := 5) (v := ?_) rfl (fun _ _ _ h => h) (Or.inl ⟨by rfl, ?_⟩) ?_;rotate_left
    ·(intro wS _; go_simp; try with_reducible rfl)
    simp only [getElem_toArray, getElem_cons_succ, getElem_cons_zero];simp only [Act.put, setIfInBounds_toArray, set_cons_zero, set_cons_succ];refine AnyX.mv (i := 6) (v := ?_) rfl (fun _ _ _ h => h) (Or.inl ⟨by rfl, ?_⟩) ?_;rotate_left
    ·(intro wS _; go_simp; try with_reducible rfl)
    simp only [getElem_toArray, getElem_cons_succ, getElem_cons_zero];simp only [Act.put, setIfInBounds_toArray, set_cons_zero, set_cons_succ];refine AnyX.go 7 (by kernel_rfl) rfl rfl (fun K hK => ?_);simp only [getElem_toArray, getElem_cons_succ, getElem_cons_zero];go_simp
    refine (ONE.out _ (Below.drew (Below.refl _ _))).mono ?_;rintro e w1 ⟨l, t, rfl, hT1', hK1', i2, c2, b2, hres, hc2, R1⟩;have hK1 : Kp r wo w1 := (Kp.of_below (Below.drew (Below.refl _ _))).trans hK1';have hT1 : TyAt (strike (· < wo.heap.size) w1) l t := hT1';obtain ⟨An, cA, As, cS, rfl, -⟩ := hT1.parts;have hs1 : wo.heap.size <= w1.heap.size := hK1.size;have O1 := (hK1.blk hB0 (by omega)).trans HBOX.out;have y61 : w1.cell? ⟨w.heap.size + 1, 6, none⟩ = some (.slice A6 n6 c6) := cZ O1 6;have ROW1 := HROWS.out.keep hs1 (fun b hb hlt => hK1.blk hlt (by omega));simp only [];refine hK.out _ _ (fun hoff _ => y61) ?_;clear hK;(try simp only [Act.put, setIfInBounds_toArray, set_cons_zero, set_cons_succ]);refine AnyX.go 8 (by kernel_rfl) rfl rfl (fun K hK => ?_);simp only [getElem_toArray, getElem_cons_succ, getElem_cons_zero];go_simp
    refine hK.out _ _ (fun hoff _ => ((below_new (Below.refl _ _) _).cell (p := ⟨w.heap.size + 1, 6, none⟩) (by show w.heap.size + 1 < w1.heap.size; omega)).trans y61) ?_;clear hK;(try simp only [Act.put, setIfInBounds_toArray, set_cons_zero, set_cons_succ]);obtain ⟨C, hC1, hC2, hown6, hC4⟩ := ROW1.subs;have hlow6 : ∀ b, (Value.slice A6 n6 c6).ownBlock = some b -> w.heap.size + 2 <= b /\ b < w1.heap.size := fun b e => hown6.lt b e
    have hlow6' : ∀ b, (Value.slice A6 n6 c6).ownBlock = some b -> b < wo.heap.size := fun b e => by
     obtain ⟨C', -, -, h3, -⟩ := HROWS.out.subs;exact (h3.lt b e).2
    obtain ⟨inf, hi1, hy0, hy1, hy2⟩ := info_parts typ_info;have hMX : n6 + 1 <= maxLen := by unfold maxLen; omega
    have hAL : ∀ oo, w.heap.size + 2 <= (w1.alloc oo).heap.size := fun oo => by have e1 : (w1.alloc oo).heap.size = w1.heap.size + 1 := (by simp); omega
    refine AnyX.go 9 (by kernel_rfl) rfl rfl (fun K hK => ?_);simp only [getElem_toArray, getElem_cons_succ, getElem_cons_zero];refine wp_append_lies _ (.tmp 26) (.tmp 33) 46 rfl (w.heap.size + 2) 48 inf _ 7 112 Tryz.underlying46 hi1 hy0 hy1 hy2 (by rfl) (Nat.zero_lt_succ 6) (.slice A6 n6 c6) n6 _ rfl (hown6.alloc _) ⟨w1.heap.size, 0, none⟩ 1 1 [.int .i64 t.kind, .string t.pkg, .int .i64 t.major, .string t.mod, .string t.name, .slice An t.names.length cA, .slice As t.subs.length cS] rfl rfl (fun q u hq => by rw [WideShapes.add_plain, Nat.zero_add, cZ (heap_alloc_new w1 _), <- hq, <- List.getElem?_toArray]) (fun u hu => by simp at hu; rcases hu with rfl | rfl | rfl | rfl | rfl | rfl | rfl <;> rfl) Nat.one_pos hMX (by omega) (hAL _) _ rfl ?_;intro gb cap w3 hown3 hgrow hat hlt3
    have MORE := GrR.more (n := S.n) (cn := cn) ROW1 hlo0 hs1 (fun b e => by
     rcases e with e | e
     ·simp [Value.ownBlock] at e
     ·exact hlow6' b e) hC1 hC2 hC4 rfl hT1 hown3 hgrow hat (by omega : w.heap.size + 1 < w.heap.size + 2) (by omega) (by omega) O1 ⟨_, _, _, R1⟩ (HKP.out.trans hK1) (by omega)
    obtain ⟨ROW4, O4, K4, old4, z6, e6, hs4⟩ := MORE;refine hK.out _ _ (fun hoff _ => z6) ?_;clear hK;(try simp only [Act.put, setIfInBounds_toArray, set_cons_zero, set_cons_succ]);refine AnyX.mv (i := 10) (v := ?_) rfl (fun _ _ _ h => h) (Or.inl ⟨by rfl, ?_⟩) ?_;rotate_left
    ·(intro wS _; go_simp; try with_reducible rfl)
    simp only [getElem_toArray, getElem_cons_succ, getElem_cons_zero];simp only [Act.put, setIfInBounds_toArray, set_cons_zero, set_cons_succ];refine AnyX.go 11 (by kernel_rfl) rfl rfl (fun K hK => ?_);simp only [getElem_toArray, getElem_cons_succ, getElem_cons_zero];go_simp
    refine hK.out _ _ (fun hoff _ => absurd hoff (by decide)) ?_;clear hK;(try simp only [Act.put, setIfInBounds_toArray, set_cons_zero, set_cons_succ]);refine AnyX.done (by kernel_rfl) ?_ _;obtain ⟨w4, hw4⟩ : ∃ w4, w4 = w3.setCell ⟨w.heap.size + 1, 6, none⟩ (.slice (some ⟨gb, 0, none⟩) (n6 + 1) cap) := ⟨_, rfl⟩;rw [<- hw4] at ROW4 O4 K4 old4 hs4 ⊢;have R4 : Rd r A S.n cn i2 c2 b2 w4 := R1.other (old4 r (by omega) (by omega));have X4 : w4.heap[w.heap.size]? = _ := (old4 _ (by omega) (by omega)).trans ((hK1.blk (by omega) (by omega)).trans HRES.out);have C4 := HC0.out.on K4 hr;have hres' : oneR S g' d i c ss.length = badR b2 i2 (.ok t i2 c2) := by rw [HL6.out]; exact hres
    have IS4 := zH (is_any C4 R4 ⟨#[41]⟩)
    have hm2 : b2 = 0 -> i < i2 /\ i < S.n := fun hb => by
     subst hb;exact (one_ok hres').2
    have hlim : b2 = 0 -> n6 + 1 <= 20 := fun hb => by
     subst hb;have := (one_ok hres').1
     rw [HL6.out] at this; omega
    have HM2 := zH hm2;have HLIM := zH hlim;have HRES' := zH hres'
    have HROW4 := zH ROW4;have HO4 := zH O4;have HK4 := zH K4;have HR4 := zH R4;have HX4 := zH X4;have HC4 := zH C4;have hr4 : r < w4.heap.size := R4.lt;have hlo4 : w.heap.size + 2 <= w4.heap.size := by omega
    have hg'f : g' <= f := by omega
    clear hw4 ROW4 O4 K4 old4 hs4 R4 X4 C4 hres' hm2 hlim hres R1 hT1 hK1 hT1' hK1' O1 y61 ROW1 hC1 hC2 hC4 hown6 hown3 hgrow hat hlt3 z6 e6 y6 ONE HRES HROWS HKP HBOX hH0 hlow6 hlow6' hAL hMX hi1 hy0 hy1 hy2;go_wp2_with fail
    refine IS4.out.mono ?_; rintro e w5 ⟨rfl, hb5⟩
    obtain ⟨q2, hq2⟩ : ∃ q2, (decide (b2 = 0) && S.sign i2 (ByteArray.mk #[41]).data.toList) = q2 := ⟨_, rfl⟩;rw [hq2];have HQ2 : Hid ((decide (b2 = 0) && S.sign i2 [41]) = q2) := zH hq2;clear hq2 IS4;have hs5 := hb5.size;have R5 := HR4.out.on hb5;have ROW5 := HROW4.out.keep hs5 (fun b _ hlt => hb5.block b hlt);have O5 := (hb5.block (w.heap.size + 1) (by omega)).trans HO4.out;have X5 := (hb5.block w.heap.size (by omega)).trans HX4.out;have K5 := HK4.out.trans (Kp.of_below hb5);cases q2 with
    | true =>
     obtain ⟨hb20, hF2⟩ := subs_last HRES'.out HQ2.out;subst hb20;have hsg : S.sign i2 [41] = true := by have := HQ2.out; simpa using this
     have hi2 := sign_lt hsg;have h63 : (i2 : Int) + 1 <= 9223372036854775807 := by omega
     have r1 := R5.c1;have f1 := R5.f 1;have hhm := HM2.out rfl;have hll := HLIM.out rfl;have m1 := R5.at (i2 + 1)
     have INV : Hid (FnI w r A S cn d f F (ss ++ [t]) (n6 + 1) (some ⟨gb, 0, none⟩) cap (i2 + 1) c2 0 g' false (w5.setCell ⟨r, 1, none⟩ (.int .i64 ((i2 : Int) + 1)))) := zH (by
      have ot : ∀ b, b ≠ r -> (w5.setCell ⟨r, 1, none⟩ (.int .i64 ((i2 : Int) + 1))).heap[b]? = w5.heap[b]? := fun b hb => Below.heap_setCell _ _ _ _ hb
      refine ⟨K5.put 1 _, (ot _ (by omega)).trans O5, (ot _ (by omega)).trans X5, ROW5.keep (by simp) (fun b hb _ => ot b (by omega)), by simpa using m1, ?_, hg'f, by omega, fun _ => hll, hc2⟩;rw [HFIN.out, hF2, badR_0, if_neg (by decide)])
     have MEAS : Hid (rdM r S.n (w5.setCell ⟨r, 1, none⟩ (.int .i64 ((i2 : Int) + 1))) < rdM r S.n wo) := zH (by
      have e1 : Rd r A S.n cn (i2 + 1) c2 0 (w5.setCell ⟨r, 1, none⟩ (.int .i64 ((i2 : Int) + 1))) := by simpa using m1
      rw [e1.m, HRD.out.m];simp only [if_true];omega)
     clear m1 ROW5 O5 X5 K5 R5 hF2 hb5 hs5 HFIN hhm hll hsg hi2;go_wp2_with fail
     go_roundw
     case rel => exact ⟨false, ss ++ [t], n6 + 1, some ⟨gb, 0, none⟩, cap, i2 + 1, c2, 0, g', rfl, INV⟩
     case measure => exact MEAS.out
    | false =>
     have hF2 := subs_more HRES'.out HQ2.out;have C5 := HC4.out.on (Kp.of_below hb5) hr4;have PS := zH (pass_any C5 R5 ⟨#[44]⟩);have HROW5 := zH ROW5;have HO5 := zH O5;have HX5 := zH X5;have HK5 := zH K5;have HF2 := zH (HFIN.out.trans hF2);clear ROW5 O5 X5 K5 R5 C5 hF2;go_wp2_with fail
     refine PS.out.mono ?_; rintro e w6 ⟨rfl, R6, k6⟩
     have hs6 := k6.size
     have hb2z : psB b2 (S.sign i2 [44]) = 0 -> b2 = 0 := fun e => by
      by_cases hb : b2 = 0
      ·exact hb
      ·rw [psB_bad _ hb] at e; exact e
     have INV : Hid (FnI w r A S cn d f F (ss ++ [t]) (n6 + 1) (some ⟨gb, 0, none⟩) cap (psI b2 (S.sign i2 [44]) i2) c2 (psB b2 (S.sign i2 [44])) g' true w6) := zH
      ⟨HK5.out.trans k6, (k6.blk (by omega) (by omega)).trans HO5.out, (k6.blk (by omega) (by omega)).trans HX5.out, HROW5.out.keep hs6 (fun b hb hlt => k6.blk hlt (by omega)), R6, by rw [if_pos rfl]; exact HF2.out, hg'f, by omega, fun e => HLIM.out (hb2z e), hc2⟩
     have MEAS : Hid (rdM r S.n w6 < rdM r S.n wo) := zH (by
      have e1 : Rd r A S.n cn (psI b2 (S.sign i2 [44]) i2) c2 (psB b2 (S.sign i2 [44])) w6 := R6;rw [e1.m, HRD.out.m];simp only [if_true];split
      ·rename_i hz
       have := HM2.out (hb2z hz)
       have hge : i2 <= psI b2 (S.sign i2 [44]) i2 := by unfold psI; split <;> omega
       omega
      ·omega)
     clear R6 k6 hs6 HF2 HK5 HX5 HO5 HROW5 PS;go_wp2_with fail
     go_roundw
     case rel => exact ⟨true, ss ++ [t], n6 + 1, some ⟨gb, 0, none⟩, cap, _, c2, _, g', rfl, INV⟩
     case measure => exact MEAS.out
   ·obtain ⟨g', hg', hF⟩ : ∃ g', g' < f /\ F = badR b i (pEnd S (g' + 1) d i c ss) := by
     have hfin := HI.out.fin;by_cases hb : b = 0
     ·subst hb
      have hmb : ¬ mb = true := fun e => hgo ⟨e, rfl⟩
      rw [if_neg hmb] at hfin;have hfu := HI.out.fuel;cases g with
      | zero => exact absurd (by rw [hfin, badR_0]; unfold pEnd; rfl) (HNE.out 0)
      | succ g' => exact ⟨g', by omega, hfin⟩
     ·exact ⟨0, hf, by rw [hfin, badR_bad hb]⟩
    have hn21 := HI.out.some;have hcnt := HI.out.cnt;have hl6 := HI.out.rows.len6;have C0 := HC0.out.on HI.out.kp hr;have PS := zH (pass_any C0 R ⟨#[45, 62]⟩);have HF := zH hF;have HL6 := zH hl6;have HBOX := zH HI.out.box;have HRES := zH HI.out.res;have HROWS := zH HI.out.rows;have HKP := zH HI.out.kp;have hlow : w.heap.size + 1 < wo.heap.size := (Array.getElem?_eq_some_iff.1 HI.out.box).1
    have hor : mb = false \/ (mb = true /\ (((b : Nat) : Int) == 0) = false) := by
     cases mb with
     | false => exact .inl rfl
     | true =>
      refine .inr ⟨rfl, ?_⟩;have : b ≠ 0 := fun e => hgo ⟨rfl, e⟩
      simp; omega
    clear hF hl6 C0 R HI hgo;rcases hor with rfl | ⟨rfl, hb1⟩
    all_goals
     go_upto_region 12 with fail
     clear r3;go_wp2_with fail
     refine PS.out.mono ?_; rintro e w5 ⟨rfl, R5, k5⟩
     have hs5 := k5.size;have hr5 : r < w5.heap.size := R5.lt;have C5 := HC0.out.on (HKP.out.trans k5) hr;have HK5 := zH (HKP.out.trans k5);have HB5 := zH ((k5.blk hlow (by omega)).trans HBOX.out);have HX5 := zH ((k5.blk (by omega : w.heap.size < wo.heap.size) (by omega)).trans HRES.out);have HROW5 := zH (HROWS.out.keep hs5 (fun b hb hlt => k5.blk hlt (by omega)))
     have ONE : Hid (∀ w', Below w5.heap.size w5 w' -> Calls Tryz.prog 174 #[.pointer (some ⟨r, 0, none⟩), .int .i64 n6, .int .i64 d] w' (TyOut w' r A S.n cn (badR (psB b (S.sign i [45, 62])) (psI b (S.sign i [45, 62]) i) (oneR S g' d (psI b (S.sign i [45, 62]) i) c n6)))) := zH (fun w' hb =>
      one_any (HTy.out g' hg') d _ c _ n6 w' hd (by omega) hcnt (C5.on (Kp.of_below hb) hr5) (R5.on hb) (fun hz j => by
       by_cases hb0 : b = 0
       ·subst hb0
        have hF := HF.out;rw [badR_0] at hF;rw [<- HL6.out];exact end_hne (fun j => by rw [<- hF]; exact HNE.out j) hz j
       ·rw [psB_bad _ hb0] at hz; exact absurd hz hb0))
     have y6 : w5.cell? ⟨w.heap.size + 1, 6, none⟩ = some (.slice A6 n6 c6) := cZ HB5.out 6;have hB0 : w.heap.size + 1 < w5.heap.size := by omega
     have hlo0 : w.heap.size + 2 <= w5.heap.size := by omega
     clear C5 R5 k5 PS HBOX HRES HROWS HKP;go_wp2_with fail
     refine AnyX.start (fun wx => wx.cell? ⟨w.heap.size + 1, 6, none⟩ = some (.slice A6 n6 c6)) (fun k => k == 11) (by kernel_rfl) ?_;have hH0 : w5.drew.cell? ⟨w.heap.size + 1, 6, none⟩ = some (.slice A6 n6 c6) := by simpa using y6
     refine AnyX.mv (i := 0) (v := ?_) rfl (fun _ _ _ h => h) (Or.inl ⟨by rfl, ?_⟩) ?_;rotate_left
     ·(intro wS _; go_simp; try with_reducible rfl)
     simp only [getElem_toArray, getElem_cons_succ, getElem_cons_zero];simp only [Act.put, setIfInBounds_toArray, set_cons_zero, set_cons_succ];refine AnyX.tk (i := 1) (v := ?_) rfl (fun _ _ _ h => h) hH0 (Or.inl ⟨by rfl, ?_⟩) ?_;rotate_left
     ·(intro wS hS; (try obtain hc := hS); go_simp; try with_reducible rfl)
     simp only [getElem_toArray, getElem_cons_succ, getElem_cons_zero];simp only [Act.put, setIfInBounds_toArray, set_cons_zero, set_cons_succ];refine AnyX.mv (i := 2) (v := ?_) rfl (fun _ _ _ h => h) (Or.inl ⟨by rfl, ?_⟩) ?_;rotate_left
     ·(intro wS _; go_simp; try with_reducible rfl)
     simp only [getElem_toArray, getElem_cons_succ, getElem_cons_zero];simp only [Act.put, setIfInBounds_toArray, set_cons_zero, set_cons_succ];refine AnyX.mv (i := 3) (v := ?_) rfl (fun _ _ _ h => h) (Or.inl ⟨by rfl, ?_⟩) ?_;rotate_left
     ·(intro wS _; go_simp; try with_reducible rfl)
     simp only [getElem_toArray, getElem_cons_succ, getElem_cons_zero];simp only [Act.put, setIfInBounds_toArray, set_cons_zero, set_cons_succ];refine AnyX.tk (i := 4) (v := ?_) rfl (fun _ _ _ h => h) hH0 (Or.inl ⟨by rfl, ?_⟩) ?_;rotate_left
     ·(intro wS hS; (try obtain hc := hS); go_simp; try with_reducible rfl)
     simp only [getElem_toArray, getElem_cons_succ, getElem_cons_zero];simp only [Act.put, setIfInBounds_toArray, set_cons_zero, set_cons_succ];refine AnyX.mv (i := 5) (v := ?_) rfl (fun _ _ _ h => h) (Or.inl ⟨by rfl, ?_⟩) ?_;rotate_left
     ·(intro wS _; go_simp; try with_reducible rfl)
     simp only [getElem_toArray, getElem_cons_succ, getElem_cons_zero];simp only [Act.put, setIfInBounds_toArray, set_cons_zero, set_cons_succ];refine AnyX.mv (i := 6) (v := ?_) rfl (fun _ _ _ h => h) (Or.inl ⟨by rfl, ?_⟩) ?_;rotate_left
     ·(intro wS _; go_simp; try with_reducible rfl)
     simp only [getElem_toArray, getElem_cons_succ, getElem_cons_zero];simp only [Act.put, setIfInBounds_toArray, set_cons_zero, set_cons_succ];refine AnyX.go 7 (by kernel_rfl) rfl rfl (fun K hK => ?_);simp only [getElem_toArray, getElem_cons_succ, getElem_cons_zero];go_simp
     refine (ONE.out _ (Below.drew (Below.refl _ _))).mono ?_;rintro e w1 ⟨l, t, rfl, hT1', hK1', i2, c2, b2, hres, hc2, R1⟩;have hK1 : Kp r w5 w1 := (Kp.of_below (Below.drew (Below.refl _ _))).trans hK1';have hT1 : TyAt (strike (· < w5.heap.size) w1) l t := hT1';obtain ⟨An, cA, As, cS, rfl, -⟩ := hT1.parts;have hs1 : w5.heap.size <= w1.heap.size := hK1.size;have O1 := (hK1.blk hB0 (by omega)).trans HB5.out;have y61 : w1.cell? ⟨w.heap.size + 1, 6, none⟩ = some (.slice A6 n6 c6) := cZ O1 6;have ROW1 := HROW5.out.keep hs1 (fun b hb hlt => hK1.blk hlt (by omega));simp only [];refine hK.out _ _ (fun hoff _ => y61) ?_;clear hK;(try simp only [Act.put, setIfInBounds_toArray, set_cons_zero, set_cons_succ]);refine AnyX.go 8 (by kernel_rfl) rfl rfl (fun K hK => ?_);simp only [getElem_toArray, getElem_cons_succ, getElem_cons_zero];go_simp
     refine hK.out _ _ (fun hoff _ => ((below_new (Below.refl _ _) _).cell (p := ⟨w.heap.size + 1, 6, none⟩) (by show w.heap.size + 1 < w1.heap.size; omega)).trans y61) ?_;clear hK;(try simp only [Act.put, setIfInBounds_toArray, set_cons_zero, set_cons_succ]);obtain ⟨C, hC1, hC2, hown6, hC4⟩ := ROW1.subs;have hlow6 : ∀ b, (Value.slice A6 n6 c6).ownBlock = some b -> w.heap.size + 2 <= b /\ b < w1.heap.size := fun b e => hown6.lt b e
     have hlow6' : ∀ b, (Value.slice A6 n6 c6).ownBlock = some b -> b < w5.heap.size := fun b e => by
      obtain ⟨C', -, -, h3, -⟩ := HROW5.out.subs;exact (h3.lt b e).2
     obtain ⟨inf, hi1, hy0, hy1, hy2⟩ := info_parts typ_info;have hMX : n6 + 1 <= maxLen := by unfold maxLen; omega
     have hAL : ∀ oo, w.heap.size + 2 <= (w1.alloc oo).heap.size := fun oo => by have e1 : (w1.alloc oo).heap.size = w1.heap.size + 1 := (by simp); omega
     refine AnyX.go 9 (by kernel_rfl) rfl rfl (fun K hK => ?_);simp only [getElem_toArray, getElem_cons_succ, getElem_cons_zero];refine wp_append_lies _ (.tmp 50) (.tmp 57) 46 rfl (w.heap.size + 2) 48 inf _ 7 112 Tryz.underlying46 hi1 hy0 hy1 hy2 (by rfl) (Nat.zero_lt_succ 6) (.slice A6 n6 c6) n6 _ rfl (hown6.alloc _) ⟨w1.heap.size, 0, none⟩ 1 1 [.int .i64 t.kind, .string t.pkg, .int .i64 t.major, .string t.mod, .string t.name, .slice An t.names.length cA, .slice As t.subs.length cS] rfl rfl (fun q u hq => by rw [WideShapes.add_plain, Nat.zero_add, cZ (heap_alloc_new w1 _), <- hq, <- List.getElem?_toArray]) (fun u hu => by simp at hu; rcases hu with rfl | rfl | rfl | rfl | rfl | rfl | rfl <;> rfl) Nat.one_pos hMX (by omega) (hAL _) _ rfl ?_;intro gb cap w3 hown3 hgrow hat hlt3
     have MORE := GrR.more (n := S.n) (cn := cn) ROW1 hlo0 hs1 (fun b e => by
      rcases e with e | e
      ·simp [Value.ownBlock] at e
      ·exact hlow6' b e) hC1 hC2 hC4 rfl hT1 hown3 hgrow hat (by omega : w.heap.size + 1 < w.heap.size + 2) (by omega) (by omega) O1 ⟨_, _, _, R1⟩ (HK5.out.trans hK1) (by omega)
     obtain ⟨ROW4, O4, K4, old4, z6, e6, hs4⟩ := MORE;refine hK.out _ _ (fun hoff _ => z6) ?_;clear hK;(try simp only [Act.put, setIfInBounds_toArray, set_cons_zero, set_cons_succ]);refine AnyX.mv (i := 10) (v := ?_) rfl (fun _ _ _ h => h) (Or.inl ⟨by rfl, ?_⟩) ?_;rotate_left
     ·(intro wS _; go_simp; try with_reducible rfl)
     simp only [getElem_toArray, getElem_cons_succ, getElem_cons_zero];simp only [Act.put, setIfInBounds_toArray, set_cons_zero, set_cons_succ];refine AnyX.go 11 (by kernel_rfl) rfl rfl (fun K hK => ?_);simp only [getElem_toArray, getElem_cons_succ, getElem_cons_zero];go_simp
     refine hK.out _ _ (fun hoff _ => absurd hoff (by decide)) ?_;clear hK;(try simp only [Act.put, setIfInBounds_toArray, set_cons_zero, set_cons_succ]);refine AnyX.done (by kernel_rfl) ?_ _;obtain ⟨w4, hw4⟩ : ∃ w4, w4 = w3.setCell ⟨w.heap.size + 1, 6, none⟩ (.slice (some ⟨gb, 0, none⟩) (n6 + 1) cap) := ⟨_, rfl⟩;rw [<- hw4] at ROW4 O4 K4 old4 hs4 ⊢;have R4 : Rd r A S.n cn i2 c2 b2 w4 := R1.other (old4 r (by omega) (by omega));have X4 : w4.heap[w.heap.size]? = _ := (old4 _ (by omega) (by omega)).trans ((hK1.blk (by omega) (by omega)).trans HX5.out)
     have FIN : F = badR b2 i2 (.ok (.mk 7 ⟨#[]⟩ 0 ⟨#[]⟩ ⟨#[]⟩ [] (ss ++ [t])) i2 c2) := by
      rw [HF.out]; exact end_res (by rw [HL6.out]; exact hres)
     have DONE := ROW4.done 7 (m := w.heap.size + 1) (by omega) (by omega) (by omega);have SEAL := zH (TyOut.seal (A := A) (n := S.n) (cn := cn) (res := F) (Nat.le_refl _) X4 K4 DONE (Nat.lt_succ_self _) hr ⟨i2, c2, b2, FIN, hc2, R4⟩);obtain ⟨x0, x1, x2, x3, x4, x5, x6⟩ := cq7 O4;simp at x0 x1 x2 x3 x4 x5 x6;clear hw4 ROW4 O4 K4 old4 hs4 R4 FIN DONE hres R1 hT1 hK1 hT1' hK1' O1 y61 ROW1 hC1 hC2 hC4 hown6 hown3 hgrow hat hlt3 z6 e6 y6 ONE hH0 hlow6 hlow6' hAL hMX hi1 hy0 hy1 hy2 HB5 HROW5 HX5 HK5;go_wp2_with (first | ((with_reducible refine wpList_putRow 48 (w.heap.size) #[.int .i64 7, .string ⟨#[]⟩, .int .i64 0, .string ⟨#[]⟩, .string ⟨#[]⟩, .slice none 0 0, .slice (some ⟨gb, 0, none⟩) (n6 + 1) cap] _ _ X4 ?_ ?_ ?_ ?_ ?_ ?_); exact tySize; rfl; exact tyOne; iterate 2 (focus (first | (go_simp; done) | rfl))))
     exact ret_agg1 (fn := Tryz.f135) (vs := [.int .i64 7, .string ⟨#[]⟩, .int .i64 0, .string ⟨#[]⟩, .string ⟨#[]⟩, .slice none 0 0, .slice (some ⟨gb, 0, none⟩) (n6 + 1) cap]) (b := w.heap.size) rfl rfl Tryz.underlying48 (by kernel_rfl) SEAL.out.1 rfl SEAL.out.2
theorem GrR.first {lo g : Nat} {l : List Value} {t : Ty} {w : World} (hl : l.length = 7) (hlo : lo <= g) (hg : w.heap[g]? = some (.cells l.toArray 48 (0, 0))) (hT : TyAt (strike (fun b => b < lo \/ b = g) w) l t) :
  GrR lo [] 0 [t] 1 (.slice none 0 0) (.slice (some ⟨g, 0, none⟩) 1 1) w := by
 refine ⟨rfl, rfl, World.ownsRow_nil _ _ _ _, fun s h => by simp at h, ⟨[l], rfl, fun x h => by simp at h; subst h; exact hl, ⟨by simp [hl], .inr ⟨g, 1, l.toArray, rfl, hlo, hg, Nat.le_refl _, by decide, by simp [hl], ?_⟩⟩, fun i x u hx hu => ?_⟩, fun b h => by simp [Value.ownBlock] at h⟩
 ·simp [<- hl]
 ·have hi := (List.getElem?_eq_some_iff.1 hx).1
  obtain rfl : i = 0 := by simp at hi; omega
  simp at hx hu;subst hx hu;refine TyAt.move hT (Nat.le_refl _) fun b _ hS => ⟨?_, rfl⟩
  rintro (e | e | e)
  ·exact hS (.inl e)
  ·simp [Value.ownBlock] at e
  ·simp [Value.ownBlock] at e; exact hS (.inr e.symm)
theorem GrR.moreK {cu r lo g cap n6 c6 : Nat} {ss : List Ty} {A6 : Option Addr} {w wo w1 w3 : World} {o : Obj} {l : List Value} {t : Ty} {C : List (List Value)}
  (h : GrR lo [] 0 ss n6 (.slice none 0 0) (.slice A6 n6 c6) w1) (hlo : lo <= wo.heap.size) (hz : wo.heap.size <= w1.heap.size) (hwo : ∀ b, (Value.slice A6 n6 c6).ownBlock = some b -> b < wo.heap.size)
  (hC1 : C.length = n6) (hC2 : ∀ l, l ∈ C -> l.length = 7) (hC4 : ∀ (i : Nat) (l : List Value) (t : Ty), C[i]? = some l -> ss[i]? = some t -> GrT lo (.slice none 0 0) (.slice A6 n6 c6) w1 l t) (hl : l.length = 7)
  (hT : TyAt (strike (· < wo.heap.size) w1) l t) (hown : w3.ownsRow lo 48 7 (.slice (some ⟨g, 0, none⟩) (n6 + 1) cap) (n6 + 1) (C.flatten ++ l)) (hgrow : (w1.alloc o).grownBy w3 (Value.slice A6 n6 c6).ownBlock)
  (hat : (Value.slice A6 n6 c6).ownBlock = some g \/ g = (w1.alloc o).heap.size) (hK : KQ cu r w w1) (hw : w.heap.size <= lo) :
  GrR lo [] 0 (ss ++ [t]) (n6 + 1) (.slice none 0 0) (.slice (some ⟨g, 0, none⟩) (n6 + 1) cap) w3 /\ KQ cu r w w3 /\ (∀ b, b < lo -> b < w1.heap.size -> w3.heap[b]? = w1.heap[b]?) /\
  (∀ b, (∀ vs fr, w1.heap[b]? ≠ some (Obj.cells vs 48 fr)) -> b < w1.heap.size -> w3.heap[b]? = w1.heap[b]?) /\ w1.heap.size <= w3.heap.size := by
 obtain ⟨C', h1', h2', h3, h4'⟩ := h.subs
 have hlow : ∀ b, (Value.slice A6 n6 c6).ownBlock = some b -> lo <= b := fun b e => (h3.lt b e).1
 have hGT : GrT lo (.slice none 0 0) (.slice A6 n6 c6) w1 l t := TyAt.move hT (Nat.le_refl _) fun b hlt hS => ⟨by
  rintro (e | e | e)
  ·omega
  ·simp [Value.ownBlock] at e
  ·have := hwo b e; omega, rfl⟩
 have R3 := h.addSub hC1 hC2 hC4 hl hGT hown rfl hgrow hat
 have hsz : (w1.alloc o).heap.size = w1.heap.size + 1 := by simp
 have hsz3 := hgrow.size
 refine ⟨R3, (hK.alloc o).grow hgrow fun b e => by have := hlow b e; omega, fun b hb hlt => ?_, fun b hb hlt => ?_, by omega⟩
 ·rw [hgrow.block b (by omega) (fun e => by have := hlow b e.symm; omega)]
  exact Lib.alloc_old w1 o b hlt
 ·rw [hgrow.block b (by omega) (fun e => ?_)]
  ·exact Lib.alloc_old w1 o b hlt
  ·rcases h3.2 with ⟨e1, -⟩ | ⟨g6, cap6, cur6, hv, -, hg6, -⟩
   ·rw [e1] at e; simp [Value.ownBlock] at e
   ·rw [hv] at e; simp [Value.ownBlock] at e
    subst e;exact hb _ _ hg6
def cuM (q n : Nat) (w : World) : Nat :=
 match w.heap[q]? with
 | some (Obj.cells cs _ _) => (match cs[1]?, cs[2]? with
  | some (Value.int _ i), some Value.nilIface => n + 3 - i.toNat + 1
  | _, _ => 0)
 | _ => 0
theorem CSt.m {q : Nat} {A : Option Addr} {n cn i b : Nat} {w : World} (h : CSt q A n cn i b w) : cuM q n w = if b = 0 then n + 3 - i + 1 else 0 := by
 unfold cuM
 rcases h with ⟨rfl, h⟩ | ⟨hb, x, g, h, -⟩
 ·unfold CGd at h
  rw [h]; simp
 ·rw [h, if_neg hb]; simp
theorem one_read {S : Toks} {f d i c n : Nat} : readR S f (d + 1) (n + 1) i c = oneR S f d i c n := by
 unfold readR oneR
 by_cases h : S.begins i = true /\ 20 <= n
 ·rw [if_pos h, if_pos ⟨h.1, by omega⟩]
 ·rw [if_neg h, if_neg (fun x => h ⟨x.1, by omega⟩)]
def contR (S : Toks) (f d i c : Nat) (ss : List Ty) : Res Ty := if S.sign i [41] = true then pEnd S f d (i + 1) c ss else if S.sign i [44] = false then .err 2 i else pSubs S f d (i + 1) c ss
def shutR (S : Toks) (f d i c : Nat) (ss : List Ty) : Res Ty := if S.sign i [41] = true then pEnd S f d (i + 1) c ss else .err 2 i
theorem sign_one {S : Toks} {i : Nat} {l m : List UInt8} (h : S.sign i l = true) (hne : l ≠ m) : S.sign i m = false := by
 unfold Toks.sign at h ⊢
 simp only [Bool.and_eq_true, decide_eq_true_eq, beq_iff_eq] at h
 rw [h.2]
 have : (l == m) = false := by rw [beq_eq_false_iff_ne]; exact hne
 rw [this, Bool.and_false]
theorem subs_cont {S : Toks} {f d i c b2 i2 c2 : Nat} {ss : List Ty} {t : Ty} (h : oneR S f d i c ss.length = badR b2 i2 (.ok t i2 c2)) :
  pSubs S (f + 1) d i c ss = badR b2 i2 (contR S f d i2 c2 (ss ++ [t])) := by
 rw [subs_eq, h]
 by_cases hb : b2 = 0
 ·subst hb; rfl
 ·rw [badR_ne _ _ hb, badR_ne _ _ hb]
theorem cont_no {S : Toks} {f d i c b : Nat} {ss : List Ty} (h : (decide (b = 0) && S.sign i [44]) = false) : badR b i (contR S f d i c ss) = badR b i (shutR S f d i c ss) := by
 by_cases hb : b = 0
 ·subst hb
  have h4 : S.sign i [44] = false := by simpa using h
  unfold contR shutR
  rw [if_pos h4]
 ·exact badR_bad hb
theorem cont_yes {S : Toks} {f d i c b : Nat} {ss : List Ty} (h : (decide (b = 0) && S.sign i [44]) = true) : b = 0 /\ S.sign i [44] = true /\ badR b i (contR S f d i c ss) = pSubs S f d (i + 1) c ss := by
 simp at h
 obtain ⟨rfl, h4⟩ := h
 refine ⟨rfl, h4, ?_⟩
 rw [badR_0]
 unfold contR
 rw [if_neg (by rw [sign_one h4 (by decide)]; decide), if_neg (by rw [h4]; decide)]
theorem shut_res {S : Toks} {f d i c b : Nat} {ss : List Ty} : badR b i (shutR S f d i c ss) = badR (psB b (S.sign i [41])) (psI b (S.sign i [41]) i) (pEnd S f d (psI b (S.sign i [41]) i) c ss) := by
 rw [sign_res (S.sign i [41]) b i (fun j => pEnd S f d j c ss)]
 unfold shutR
 by_cases h : S.sign i [41] = true
 ·rw [if_pos h, if_neg (by rw [h]; decide)]
 ·rw [if_neg h, if_pos (by simpa using h)]
structure CpI (w : World) (cu r : Nat) (A : Option Addr) (S : Toks) (cn d f : Nat) (F : Res Ty) (ss : List Ty) (n6 : Nat) (A6 : Option Addr) (c6 i c b g : Nat) (wr : World) : Prop where
 kp : KQ cu r w wr
 rows : GrR w.heap.size [] 0 ss n6 (.slice none 0 0) (.slice A6 n6 c6) wr
 rd : RSt cu r A S.n cn i c b wr
 fin : F = badR b i (contR S g d i c ss)
 fuel : g <= f
 some : n6 <= 21
 most : b = 0 -> n6 <= 20
 cnt : c <= 500
def CpOut (w : World) (cu r : Nat) (A : Option Addr) (S : Toks) (cn d f : Nat) (F : Res Ty) (e : Ending) (w' : World) : Prop :=
 ∃ (ss : List Ty) (n6 : Nat) (A6 : Option Addr) (c6 i c b g : Nat), e = .returned (.slice A6 n6 c6) /\ KQ cu r w w' /\ GrR w.heap.size [] 0 ss n6 (.slice none 0 0) (.slice A6 n6 c6) w' /\ RSt cu r A S.n cn i c b w' /\
  F = badR b i (shutR S g d i c ss) /\ g <= f /\ n6 <= 21 /\ (b = 0 -> n6 <= 20) /\ c <= 500
theorem params_any {W : World} {cu r : Nat} {A : Option Addr} {S : Toks} {cn i c f d d' : Nat} {w : World} (RD : ∀ g, g < f -> CReadOk W cu r A S cn g) (hc : RCtx W cu r A S w) (h : RSt cu r A S.n cn i c 0 w) (hc5 : c <= 500) (hd : d' = d + 1) (hd5 : d' <= 1000000) (F : Res Ty) (hF : F = pSubs S f d i c []) (hne : ∀ j, F ≠ .err 99 j) :
  Calls Tryz.prog 204 #[.pointer (some ⟨r, 0, none⟩), .int .i64 d'] w (CpOut w cu r A S cn d f F) := by
 have hr := h.lt
 have hq0 := h.qlt
 have hbig := hc.cur.big
 obtain ⟨f', rfl⟩ : ∃ f', f = f' + 1 := by
  cases f with
  | zero => exact absurd (by rw [hF]; unfold pSubs; rfl) (hne 0)
  | succ f' => exact ⟨f', rfl⟩
 have HNE := zH hne
 have RDD := zH RD
 have HC := zH hc
 have HD := zH hd
 have RE1 := RD f' (by omega) d' 1 i c 0 w hc h hc5 hd5 (by omega) (fun _ j => by
  rw [hd, one_read];intro e;refine hne j ?_;rw [hF, subs_eq];rw [show ([] : List Ty).length = 0 from rfl, e])
 rw [badR_0, hd, one_read, <- hd] at RE1
 have RE : Calls Tryz.prog 123 #[.pointer (some ⟨r, 0, none⟩), .int .i64 d', .int .i64 1] w (COut w cu r A S.n cn (oneR S f' d i c 0)) := RE1
 have HRE := zH RE
 have HF := zH hF
 clear hne RD hc h hd RE RE1 hF
 go_enter Tryz.func204, Tryz.ntmps204
 go_wp2_with fail
 refine HRE.out.mono ?_; rintro e w1 ⟨l, t, i1, c1, b1, rfl, hT1, k1, h1, hc1, hres⟩
 obtain ⟨An, cA, As, cS, rfl, -⟩ := hT1.parts
 obtain ⟨w2, hw2⟩ : ∃ w2, w2 = w1.alloc (.cells #[.int .i64 t.kind, .string t.pkg, .int .i64 t.major, .string t.mod, .string t.name, .slice An t.names.length cA, .slice As t.subs.length cS] 48) := ⟨_, rfl⟩
 have B2 : Below w1.heap.size w1 w2 := by rw [hw2]; exact below_new (Below.refl _ _) _
 have s2 : w2.heap.size = w1.heap.size + 1 := by rw [hw2]; simp
 have s1 := k1.size
 have INV : Hid (CpI w cu r A S cn d (f' + 1) F ([] ++ [t]) 1 (some ⟨w1.heap.size, 0, none⟩) 1 i1 c1 b1 f' w2) := zH (by
  refine ⟨k1.trans (KQ.of_below B2), ?_, h1.below B2, ?_, by omega, by omega, fun _ => by omega, hc1⟩
  ·refine GrR.first (l := [.int .i64 t.kind, .string t.pkg, .int .i64 t.major, .string t.mod, .string t.name, .slice An t.names.length cA, .slice As t.subs.length cS]) rfl s1 (by rw [hw2]; exact heap_alloc_new w1 _) (hT1.move (by omega) fun b hb hS => ⟨?_, B2.block b hb⟩)
   rintro (e | e)
   ·exact hS e
   ·omega
  ·rw [HF.out]
   exact subs_cont (ss := []) hres.symm)
 have HW2 := zH hw2
 clear hT1 k1 h1 hres hw2 B2 s2 s1 HRE HF
 go_wp2_with fail
 rw [<- HW2.out]
 go_loopw [5] (fun m wr => ∃ (ss : List Ty) (n6 : Nat) (A6 : Option Addr) (c6 i c b g : Nat), m = .slice A6 n6 c6 /\ Hid (CpI w cu r A S cn d (f' + 1) F ss n6 A6 c6 i c b g wr)) (fun _ wr => cuM cu S.n wr)
 case atStart => exact ⟨_, 1, _, 1, i1, c1, b1, f', rfl, INV⟩
 case round =>
  obtain ⟨ss, n6, A6, c6, i, c, b, g, rfl, HI⟩ := hrel;obtain ⟨wo, rfl⟩ : ∃ wo : World, wo = wr := ⟨_, rfl⟩;have R := HI.out.rd;have p0 := R.p;have C0 := HC.out.on HI.out.kp;have SK := zH (rskip_any C0 R ⟨#[44]⟩);have HC0 := zH C0;have hso := HI.out.kp.size;clear R C0;go_wp2_with fail
  refine SK.out.mono ?_; rintro e w3 ⟨rfl, h3, k3⟩
  obtain ⟨v, hv⟩ : ∃ v, (decide (b = 0) && S.sign i (ByteArray.mk #[44]).data.toList) = v := ⟨_, rfl⟩;rw [hv];have HV : Hid ((decide (b = 0) && S.sign i [44]) = v) := zH hv;have hs3 := k3.size;have K3 := HI.out.kp.trans k3;have ROW3 := HI.out.rows.keep hs3 (fun b' hb hlt => k3.blk hlt (by omega));clear hv SK;cases v with
  | false =>
   have hps : psI b (S.sign i (ByteArray.mk #[44]).data.toList) i = i := by
    have := HV.out
    unfold psI
    rw [if_neg];rintro ⟨e1, e2⟩;rw [e1] at this;have e2' : S.sign i [44] = true := e2
    rw [e2'] at this; cases this
   rw [hps] at h3;have OUT : Hid (CpOut w cu r A S cn d (f' + 1) F (.returned (.slice A6 n6 c6)) w3) := zH ⟨ss, n6, A6, c6, i, c, b, g, rfl, K3, ROW3, h3, by rw [HI.out.fin]; exact cont_no HV.out, HI.out.fuel, HI.out.some, HI.out.most, HI.out.cnt⟩;clear h3 k3 K3 ROW3 hps HI HC0;go_wp2_with fail
   go_ret;exact OUT.out
  | true =>
   obtain ⟨hb0, hsg, hcy⟩ := cont_yes (f := g) (d := d) (c := c) (ss := ss) HV.out;subst hb0;have hi1 := sign_lt hsg;have hfin := HI.out.fin.trans hcy
   have h3' : RSt cu r A S.n cn (i + 1) c 0 w3 := by
    have e : S.sign i (ByteArray.mk #[44]).data.toList = true := hsg;rw [e] at h3; exact h3
   obtain ⟨g', rfl⟩ : ∃ g', g = g' + 1 := by
    cases g with
    | zero => exact absurd (by rw [hfin]; unfold pSubs; rfl) (HNE.out 0)
    | succ g' => exact ⟨g', rfl⟩
   have hfu := HI.out.fuel;have h20 := HI.out.most rfl;have hcnt := HI.out.cnt;have hl6 := HI.out.rows.len6;have C3 := HC0.out.on k3
   have RE1 := RDD.out g' (by omega) d' (n6 + 1) (i + 1) c 0 w3 C3 h3' hcnt hd5 (by omega) (fun _ j => by
    rw [HD.out, one_read];intro e;refine HNE.out j ?_;rw [hfin, subs_eq, hl6, e])
   rw [badR_0, HD.out, one_read, <- HD.out] at RE1;have RE : Calls Tryz.prog 123 #[.pointer (some ⟨r, 0, none⟩), .int .i64 d', .int .i64 ((n6 : Int) + 1)] w3 (COut w3 cu r A S.n cn (oneR S g' d (i + 1) c n6)) := RE1;have HRE := zH RE;have HROW3 := zH ROW3;have HK3 := zH K3;have HFIN := zH hfin;have HL6 := zH hl6;have MI := zH HI.out.rd.cur.m;have n63 : (n6 : Int) + 1 <= 9223372036854775807 := by omega
   have p3 := h3'.p;clear h3 h3' k3 K3 ROW3 hfin hl6 C3 RE RE1 hcy p0 HC0 HI;go_wp2_with fail
   refine HRE.out.mono ?_; rintro e w4 ⟨l, t, i4, c4, b4, rfl, hT4, k4, h4, hc4, hres⟩
   obtain ⟨An, cA, As, cS, rfl, -⟩ := hT4.parts;have hs4 := k4.size;have ROW4 := HROW3.out.keep hs4 (fun b' hb hlt => k4.blk hlt (by omega));have K4 := HK3.out.trans k4;obtain ⟨C, hC1, hC2, hown6, hC4⟩ := ROW4.subs;obtain ⟨inf, hi1', hy0, hy1, hy2⟩ := info_parts typ_info;have hMX : n6 + 1 <= maxLen := by unfold maxLen; omega
   have hwo : ∀ b, (Value.slice A6 n6 c6).ownBlock = some b -> b < w3.heap.size := fun b e => by
    obtain ⟨C', -, -, h3, -⟩ := HROW3.out.subs;exact (h3.lt b e).2
   have hAL : w.heap.size <= (w4.alloc (.cells #[.int .i64 t.kind, .string t.pkg, .int .i64 t.major, .string t.mod, .string t.name, .slice An t.names.length cA, .slice As t.subs.length cS] 48)).heap.size := by have e1 : (w4.alloc (.cells #[.int .i64 t.kind, .string t.pkg, .int .i64 t.major, .string t.mod, .string t.name, .slice An t.names.length cA, .slice As t.subs.length cS] 48)).heap.size = w4.heap.size + 1 := (by simp); omega
   have hNW : ∀ j u, ([.int .i64 t.kind, .string t.pkg, .int .i64 t.major, .string t.mod, .string t.name, .slice An t.names.length cA, .slice As t.subs.length cS] : List Value)[j]? = some u -> (w4.alloc (.cells #[.int .i64 t.kind, .string t.pkg, .int .i64 t.major, .string t.mod, .string t.name, .slice An t.names.length cA, .slice As t.subs.length cS] 48)).cell? ((⟨w4.heap.size, 0, none⟩ : Addr).add j) = some u := fun q u hq => by rw [WideShapes.add_plain, Nat.zero_add, cZ (heap_alloc_new w4 _), <- hq, <- List.getElem?_toArray]
   go_wp2_with (first | (refine wpList_append_lies _ rfl (.tmp 15) (.tmp 22) 46 rfl w.heap.size 48 inf _ 7 112 Tryz.underlying46 hi1' hy0 hy1 hy2 (by rfl) (Nat.zero_lt_succ 6) (.slice A6 n6 c6) n6 _ rfl (hown6.alloc _) ⟨w4.heap.size, 0, none⟩ 1 1 [.int .i64 t.kind, .string t.pkg, .int .i64 t.major, .string t.mod, .string t.name, .slice An t.names.length cA, .slice As t.subs.length cS] rfl rfl hNW (fun u hu => by simp at hu; rcases hu with rfl | rfl | rfl | rfl | rfl | rfl | rfl <;> rfl) Nat.one_pos hMX (by omega) hAL _ rfl ?_; intro gb cap w5 hown5 hgrow hat hlt5))
   obtain ⟨ROW5, K5, old5, oth5, hs5⟩ := GrR.moreK ROW4 (by omega) hs4 hwo hC1 hC2 hC4 rfl hT4 hown5 hgrow hat K4 (Nat.le_refl _)
   have h5 : RSt cu r A S.n cn i4 c4 b4 w5 := h4.keep fun k hk hlt => oth5 k (fun vs fr e => by
    rcases hk _ _ _ e with q | q | q <;> exact absurd q (by decide)) hlt
   have hres' : oneR S g' d (i + 1) c ss.length = badR b4 i4 (.ok t i4 c4) := by rw [HL6.out]; exact hres.symm
   have hlim : b4 = 0 -> n6 + 1 <= 20 /\ i + 1 < i4 := fun hb => by
    subst hb;have := one_ok hres'
    rw [HL6.out] at this; omega
   have INV5 : Hid (CpI w cu r A S cn d (f' + 1) F (ss ++ [t]) (n6 + 1) (some ⟨gb, 0, none⟩) cap i4 c4 b4 g' w5) := zH
    ⟨K5, ROW5, h5, by rw [HFIN.out]; exact subs_cont hres', by omega, by omega, fun e => (hlim e).1, hc4⟩
   have MEAS : Hid (cuM cu S.n w5 < cuM cu S.n wo) := zH (by
    rw [MI.out, h5.cur.m];simp only [if_true];split
    ·rename_i e
     have := hlim e
     omega
    ·omega)
   clear hT4 k4 h4 hres ROW4 K4 hC1 hC2 hown6 hC4 hi1' hy0 hy1 hy2 hNW hown5 hgrow hat hlt5 ROW5 K5 old5 oth5 hs5 h5 hres' hlim HRE HROW3 HK3 hwo hAL;go_wp2_with fail
   go_roundw
   case rel => exact ⟨ss ++ [t], n6 + 1, some ⟨gb, 0, none⟩, cap, i4, c4, b4, g', rfl, INV5⟩
   case measure => exact MEAS.out
end Go.Proofs.YtddlmigofilejaaGreatDoor
