/-
  Several texts in one.
-/
import Derived.Test.YtcdmgcgjonndpaaGreatDoorK26
open List (getElem_toArray getElem_cons_succ getElem_cons_zero set_cons_zero set_cons_succ setIfInBounds_toArray)
set_option maxRecDepth 100000
set_option maxHeartbeats 16000000
namespace Go.Proofs.YtcdmgcgjonndpaaGreatDoor
open Go.RowKit Go.Shelf
open Go.Sort Go.Maps
open M
open Classical in
noncomputable def unfW (w : World) (fb n : Nat) : Nat := ((List.range n).filter fun i => !decide (w.cell? ⟨fb, i, none⟩ = some (.bool true))).length
theorem unfW_at {w : World} {fb n : Nat} {F : Nat -> Bool} (h : FoundAt w fb n F) : unfW w fb n = unf n F := by
 unfold unfW unf
 congr 1
 apply List.filter_congr
 intro i hi
 have hi := List.mem_range.1 hi
 rw [h.cell hi]
 cases F i <;> simp
def lenOf : Value -> Nat
 | .slice _ n _ => n
 | _ => 0
def oneOf : Value -> Nat
 | .bool true => 1
 | _ => 0
theorem oneN_none {m : Mo} {x : Ty} (h : x.mod.size ≠ 0) : oneN m x = [] := if_neg h
theorem oneN_at {m : Mo} {x : Ty} (h : x.mod.size = 0) : oneN m x = (typAt m x.name).toList := if_pos h
structure Rq (m : Mo) (t : Ty) (fb n lo : Nat) (W : World) (F : Nat -> Bool) (L : List Ty) (A : Option Addr) (c : Nat) (wr : World) : Prop where
 below : Below fb W wr
 found : FoundAt wr fb n F
 rch : Rch m t F L
 own : OwnL wr lo (.slice A L.length c) L
 most : L.length + 9000 * unf n F <= 9000 * (n + 1)
theorem Rq.drew {m : Mo} {t : Ty} {fb n lo : Nat} {W : World} {F : Nat -> Bool} {L : List Ty} {A : Option Addr} {c : Nat} {wr wx : World} (h : Rq m t fb n lo W F L A c wr) (hf : fb <= wr.heap.size) (hb : Below wr.heap.size wr wx) : Rq m t fb n lo W F L A c wx :=
 ⟨h.below.trans (hb.mono hf), (hb.block fb h.found.lt).trans h.found, h.rch, h.own.keep (fun b _ hlt => hb.block b hlt), h.most⟩
theorem Rq.leaf {m : Mo} {t : Ty} {fb n : Nat} {W : World} {F : Nat -> Bool} {L : List Ty} {A : Option Addr} {c : Nat} {wr : World} {j : Nat} (h : Rq m t fb n (fb + 1) W F L A c wr) (hj : j < n) (hr : Rch m t (fun i => if i = j then true else F i) L) : Rq m t fb n (fb + 1) W (fun i => if i = j then true else F i) L A c (wr.setCell ⟨fb, j, none⟩ (.bool true)) := by
 have ot : ∀ b, b ≠ fb -> (wr.setCell ⟨fb, j, none⟩ (.bool true)).heap[b]? = wr.heap[b]? := fun b hb => Below.heap_setCell _ _ _ _ (by show b ≠ fb; exact hb)
 refine ⟨h.below.setCell (Nat.le_refl _) _, h.found.put hj, hr, h.own.keep (fun b hb _ => ot b (by omega)), ?_⟩
 have h1 := unf_le (n := n) (F := F) (F' := fun i => if i = j then true else F i) (fun i hi => by show (if i = j then true else F i) = true; split; rfl; exact hi)
 have h2 := h.most
 have := Nat.mul_le_mul_left 9000 h1
 omega
theorem unf_range (n : Nat) : unf n (fun _ => false) = n := by
 have h : ((List.range n).filter fun i => !(fun (_ : Nat) => false) i) = List.range n := List.filter_eq_self.2 (fun i _ => rfl)
 unfold unf
 rw [h, List.length_range]
theorem rreach_any (m : Mo) (l : List Value) (t : Ty) (v : Value) (w : World) (h : MoAt w l m) (hv : TyV w v t) (hm : mayM m = true) (ht : saidT m t = (locT t).flatMap (oneN m)) (hM : ∀ d ∈ m.decs, many d.typ <= 9000) (hT9 : many t <= 9000) :
  Calls Tryz.prog 62 #[.agg l.toArray, v] w fun e w' => ∃ fb, e = .returned (.slice (some ⟨fb, 0, none⟩) m.decs.length m.decs.length) /\ w.heap.size <= fb /\ FoundAt w' fb m.decs.length (reachB (entries m) (saidT m t)) /\ Below w.heap.size w w' := by
 have HV := hZ h
 have HTV := hZ hv
 have HMD := hZ (mayM_parts hm).2.2.2
 have hn60 := (mayM_parts hm).2.1
 have HTT := hZ ht
 have HM := hZ hM
 obtain ⟨Ai, ci, Ad, cd, rfl, z1, z2, z3, -, hDm⟩ := h
 have HDm0 := hZ hDm
 obtain ⟨lv, rfl, hvA⟩ := hv
 obtain ⟨An, cA, As, cS, rfl, -⟩ := hvA.parts
 clear hvA hDm hm ht hM
 obtain ⟨W2, hW2, B2, O0, O1, hl2⟩ := two_boxes w #[.string m.name, .slice Ai m.imps.length ci, .slice Ad m.decs.length cd] #[.int .i64 t.kind, .string t.pkg, .int .i64 t.major, .string t.mod, .string t.name, .slice An t.names.length cA, .slice As t.subs.length cS] 25 45
 obtain ⟨n, hn⟩ : ∃ n, n = m.decs.length := ⟨_, rfl⟩
 have HN := hZ hn
 obtain ⟨W3, hW3⟩ : ∃ W3, W3 = W2.alloc (.cells (madeCells (Value.bool false).cells (n * 1)) 4) := ⟨_, rfl⟩
 have B3 : Below W2.heap.size W2 W3 := by rw [hW3]; exact below_new (Below.refl _ _) _
 have F3 : FoundAt W3 W2.heap.size n (fun _ => false) := by
  unfold FoundAt
  rw [hW3, <- made_bools]; exact heap_alloc_new W2 _
 have s3 : W3.heap.size = W2.heap.size + 1 := by rw [hW3]; simp
 obtain ⟨i0, hi, hz0, hz1, hz2⟩ := info_parts bool_info
 have MS := run_makeSlice (P := Tryz.prog) (w := W2) 113 4 i0 (.bool false) Tryz.underlying113 hi hz0 .i64 .i64 (n : Int) (n : Int) (by omega) (by omega) (by rw [hz1]; simp; omega) (by rw [hz2]; omega) (by omega)
 rw [hz1] at MS
 simp only [Int.toNat_natCast] at MS
 rw [<- hW3] at MS
 rw [<- hn] at O0 hn60 hW2 ⊢
 have o2 := cZ O0 2
 simp at o2
 obtain ⟨fb, hfb⟩ : ∃ fb, fb = W2.heap.size := ⟨_, rfl⟩
 have HFB := hZ hfb
 rw [<- hfb] at MS F3
 have HP3 : Hid (∀ wx, Below fb W3 wx -> wx.heap[w.heap.size]? = some (.cells #[.string m.name, .slice Ai m.imps.length ci, .slice Ad n cd] 25 (0, 0))) := hZ (fun wx hb => (hb.block _ (by omega)).trans ((B3.block _ (by omega)).trans O0))
 have HQ3 : Hid (W3.heap[w.heap.size + 1]? = some (.cells #[.int .i64 t.kind, .string t.pkg, .int .i64 t.major, .string t.mod, .string t.name, .slice An t.names.length cA, .slice As t.subs.length cS] 45 (0, 0))) := hZ ((B3.block _ hl2).trans O1)
 have HB3 : Hid (Below w.heap.size w W3) := hZ (below_over B2 B3)
 have HF3 := hZ F3
 have HW2 := hZ hW2
 have hs3 : W3.heap.size = fb + 1 := by rw [s3, hfb]
 have hfw : w.heap.size + 1 < fb := by rw [hfb]; exact hl2
 have HS3 := hZ hs3
 have HMo : Hid (∀ wx, Below fb W3 wx -> MoAt wx [.string m.name, .slice Ai m.imps.length ci, .slice Ad n cd] m) := hZ (fun wx hb => by
  rw [HN.out];have h1 : Below w.heap.size w wx := HB3.out.trans (hb.mono (by omega));exact HV.out.below h1)
 have HDm : Hid (∀ wx, Below fb W3 wx -> RowIn deR wx Ad m.decs) := hZ (fun wx hb => HDm0.out.below (HB3.out.trans (hb.mono (by omega))))
 clear hW2 hW3 B2 B3 O0 O1 F3 s3 hn hi hz0 hz1 hz2 hfb hl2 hs3 HDm0
 go_enter Tryz.func62, Tryz.ntmps62
 go_upto_region 1 with fail
 rw [<- HW2.out]
 go_upto_region 2 with fail
 try rw [<- HFB.out]
 clear MS o2 HW2
 have Q3 := HQ3.out
 obtain ⟨s0, s1, s2, s3, s4, s5, s6⟩ := cq7 Q3
 simp at s0 s1 s2 s3 s4 s5 s6
 clear Q3
 go_wp2_with fail
 refine (rlocals_any (many t) t (Nat.le_refl _) hT9 _ W3 (HTV.out.below HB3.out)).mono ?_; rintro e w4 ⟨v6, rfl, ho4, hb4⟩
 obtain ⟨A6, c6, rfl⟩ : ∃ A c, v6 = .slice A (locT t).length c := by
  obtain ⟨C, -, -, h3, -⟩ := ho4;exact own_slice h3
 have START : Hid (Rq m t fb n (fb + 1) W3 (fun _ => false) (locT t) A6 c6 w4) := hZ (by
  have h3 := HS3.out;refine ⟨hb4.mono (by omega), (hb4.block fb HF3.out.lt).trans HF3.out, Rch.start HTT.out, by rw [<- h3]; exact ho4, ?_⟩;have := locT_len t
  rw [unf_range]; omega)
 clear ho4 hb4 s0 s1 s2 s3 s4 s5 s6 HQ3 HTV HV HF3
 go_wp2_with fail
 go_loopw [6, 7] (fun s6 s7 wr => ∃ (F : Nat -> Bool) (L : List Ty) (A : Option Addr) (c : Nat) (b : Bool), s6 = .slice A L.length c /\ s7 = .bool b /\ Hid (Rq m t fb n (fb + 1) W3 F L A c wr) /\ Hid (b = false -> ∀ x ∈ L, ∀ i ∈ oneN m x, F i = true)) (fun _ s7 wr => 2 * unfW wr fb n + oneOf s7)
 case atStart => exact ⟨_, _, _, _, true, rfl, rfl, START, hZ (fun h => by cases h)⟩
 case round =>
  obtain ⟨F, L, A, c, b, rfl, rfl, HQ, HC⟩ := hrel;obtain ⟨wo, rfl⟩ : ∃ wo : World, wo = wr := ⟨_, rfl⟩;cases b with
  | false =>
   have hall : ∀ i, F i = reachB (entries m) (saidT m t) i := HQ.out.rch.all HMD.out HTT.out (HC.out rfl)
   have FA : Hid (FoundAt wo fb n (reachB (entries m) (saidT m t))) := hZ (by
    have : F = reachB (entries m) (saidT m t) := funext hall
    rw [<- this]; exact HQ.out.found)
   have FB : Hid (Below w.heap.size w wo) := hZ (HB3.out.trans (HQ.out.below.mono (by omega)));clear hall;go_wp2_with fail
   go_ret;exact ⟨fb, rfl, by omega, FA.out, FB.out⟩
  | true =>
   obtain ⟨U, hU⟩ : ∃ U, U = unf n F := ⟨_, rfl⟩;have HU := hZ hU;have HMW : Hid (unfW wo fb n = U) := hZ (by rw [unfW_at HQ.out.found, hU]);clear hU HC;go_wp2_with fail
   go_loopw [6, 7, 8] (fun s6 s7 s8 wr => ∃ (F : Nat -> Bool) (L : List Ty) (A : Option Addr) (c k : Nat) (b : Bool), s6 = .slice A L.length c /\ s7 = .bool b /\ s8 = .int .i64 k /\ k <= L.length /\ Hid (Rq m t fb n (fb + 1) W3 F L A c wr) /\ Hid (unf n F <= U /\ (b = true -> unf n F < U)) /\ Hid (∀ x ∈ L.take k, ∀ i ∈ oneN m x, F i = true)) (fun s6 _ s8 wr => unfW wr fb n * 10000 + (lenOf s6 - (intOf s8).toNat))
   case atStart => exact ⟨F, L, A, c, 0, false, rfl, rfl, rfl, by omega, HQ, hZ ⟨by rw [HU.out]; exact Nat.le_refl _, fun h => by cases h⟩, hZ (by simp)⟩
   case round =>
    obtain ⟨F, L, A, c, k, b, rfl, rfl, rfl, hk, HQ, HL, HP⟩ := hrel;obtain ⟨wo, rfl⟩ : ∃ wo : World, wo = wr := ⟨_, rfl⟩;have hfo : fb < wo.heap.size := HQ.out.found.lt;have hlm : L.length <= 9000 * (n + 1) := by have := HQ.out.most; omega
    by_cases hlt : k < L.length
    ·obtain ⟨x, hx⟩ : ∃ x, L[k]? = some x := ⟨_, List.getElem?_eq_getElem hlt⟩
     have hxL := List.mem_of_getElem? hx;obtain ⟨g, Bn, cB, Bs, dB, rfl, hgl, hg, hc⟩ := HQ.out.own.get hx;have u3 : wo.cell? ⟨g, k * 7 + 3, none⟩ = some (.string x.mod) := hc 3 _ rfl;have u4 : wo.cell? ⟨g, k * 7 + 4, none⟩ = some (.string x.name) := hc 4 _ rfl;have HTK : Hid (L.take (k + 1) = L.take k ++ [x]) := hZ (by rw [List.take_add_one, hx]; rfl);have HXL := hZ hxL;have hk0 : (0 : Int) <= k := by omega
     have hk1 : (k : Int) < L.length := by omega
     have STEP : ∀ F' : Nat -> Bool, (∀ i, F i = true -> F' i = true) -> (∀ i ∈ oneN m x, F' i = true) -> Hid (∀ y ∈ L.take (k + 1), ∀ i ∈ oneN m y, F' i = true) := fun F' h1 h2 => hZ (fun y hy i hi => by
      rw [HTK.out] at hy;rcases List.mem_append.1 hy with h | h
      ·exact h1 i (HP.out y h i hi)
      ·rw [List.mem_singleton.1 h] at hi; exact h2 i hi)
     clear hc hx hxL;by_cases hz : x.mod.size = 0
     ·obtain ⟨e1, e2⟩ := empty_facts _ hz
      have HON : Hid (oneN m x = (typAt m x.name).toList) := hZ (oneN_at hz);have X2 := HP3.out wo HQ.out.below;obtain ⟨x0, x1, x2⟩ := cq3 X2;simp at x0 x1 x2;obtain ⟨J, hJ⟩ : ∃ J, J = fndN m x.name := ⟨_, rfl⟩;have cF : ∀ dd os, Calls Tryz.prog 101 #[.agg #[.string m.name, .slice Ai m.imps.length ci, .slice Ad n cd], .string x.name] (Sort.grow (redrawn wo dd) os) fun e w'' => e = .returned (.int .i64 J) /\ ∃ pp : Regrown, w'' = Sort.grow (redrawn wo pp.d) pp.os := fun dd os => Calls.regrown_of (by rw [hJ]; exact rfind_any m _ x.name _ ((HMo.out wo HQ.out.below).below (below_regrown _ dd os)) (by rw [<- HN.out]; omega))
      have HJ := hZ hJ;clear hz hJ;go_upto_region 10 with fail
      have p0 := cell_regrown x0;have p1 := cell_regrown x1;have p2 := cell_regrown x2;have p4 := cell_regrown u4;clear x0 x1 x2 u3 u4 e1 e2 X2;refine wp_region_quiet_below (by kernel_rfl) (by kernel_rfl) ?_;repeat (any_goals (first | go_big_quiet_step (with_reducible exact cF _ _) | quiet_step (with_reducible exact cF _ _)))
      refine wpQuiet_nil ?_;intro w5 hw'
      have HQ5 : Hid (Rq m t fb n (fb + 1) W3 F L (some ⟨g, 0, none⟩) c w5) := hZ (by
       obtain ⟨⟨dq, osq⟩, hw''⟩ := hw';rw [hw''];exact HQ.out.drew (Nat.le_of_lt hfo) (below_regrown wo dq osq))
      clear hw' cF p0 p1 p2 p4;have hs5 : fb < w5.heap.size := HQ5.out.found.lt;have HUW : Hid (unfW wo fb n = unf n F) := hZ (unfW_at HQ.out.found);clear HQ;cases hq : typAt m x.name with
      | none =>
       obtain rfl : J = -1 := by rw [HJ.out]; unfold fndN; rw [hq]
       have HS1 := STEP F (fun _ h => h) (fun i hi => by rw [HON.out, hq] at hi; cases hi);have HUW5 : Hid (unfW w5 fb n = unf n F) := hZ (unfW_at HQ5.out.found);clear hq STEP;go_wp2_with fail
       go_roundw
       case rel => exact ⟨F, L, _, c, k + 1, b, rfl, rfl, by go_num, by omega, HQ5, HL, HS1⟩
       case measure => rw [HUW.out, HUW5.out]; simp [intOf, lenOf]; omega
      | some j =>
       obtain rfl : J = (j : Int) := by rw [HJ.out]; unfold fndN; rw [hq]
       have hjn : j < n := by rw [HN.out]; exact typAt_lt hq
       have HO1 : Hid (oneN m x = [j]) := hZ (by rw [HON.out, hq]; rfl);have hj0 : (0 : Int) <= j := by omega
       have hj1 : (j : Int) < n := by omega
       have hfj := HQ5.out.found.cell hjn;have hff := Lib.frozen_of_heap HQ5.out.found j;obtain ⟨d, hd⟩ : ∃ d, m.decs[j]? = some d := ⟨_, List.getElem?_eq_getElem (by rw [<- HN.out]; exact hjn)⟩;clear hq HJ HON;cases hFj : F j with
       | true =>
        rw [hFj] at hfj;have HS1 := STEP F (fun _ h => h) (fun i hi => by rw [HO1.out] at hi; rw [List.mem_singleton.1 hi]; exact hFj);have HUW5 : Hid (unfW w5 fb n = unf n F) := hZ (unfW_at HQ5.out.found);clear hFj STEP hd;go_wp2_with fail
        go_roundw
        case rel => exact ⟨F, L, _, c, k + 1, b, rfl, rfl, by go_num, by omega, HQ5, HL, HS1⟩
        case measure => rw [HUW.out, HUW5.out]; simp [intOf, lenOf]; omega
       | false =>
        rw [hFj] at hfj;obtain ⟨w6, hw6⟩ : ∃ w6, w6 = w5.setCell ⟨fb, j, none⟩ (.bool true) := ⟨_, rfl⟩;have hon : j ∈ oneN m x := by rw [HO1.out]; exact List.mem_singleton.2 rfl
        have HUF : Hid (unf n (fun i => if i = j then true else F i) < unf n F) := hZ (unf_put hjn hFj);have HS1 := STEP (fun i => if i = j then true else F i) (fun i hi => by show (if i = j then true else F i) = true; split; rfl; exact hi) (fun i hi => by rw [HO1.out] at hi; rw [List.mem_singleton.1 hi]; simp);have hl6 : w6.heap.size = w5.heap.size := by rw [hw6]; simp
        have HB6 : Hid (Below fb W3 w6) := hZ (by rw [hw6]; exact HQ5.out.below.setCell (Nat.le_refl _) _);obtain ⟨gd, od, v0, v1, v2, v3, v4, v5, v6, hAd, hgd, a0, a1, t0, t1, t2, t3, t4, t5, t6, us, zs⟩ := RowIn.de (HDm.out w6 HB6.out) hd;subst hAd;have X2 := HP3.out w6 HB6.out;have x2 := cZ X2 2;simp at x2;have HW6 := hZ hw6;have HDD := hZ hd;have HL6 := hZ hl6;clear hFj STEP hd X2 hl6;by_cases hk3 : d.kind = 3
        ·have q3 : (d.kind == 3) = true := by rw [hk3]; rfl
         have hmd := HMD.out d (List.mem_of_getElem? HDD.out);have HRA : Hid (Rch m t (fun i => if i = j then true else F i) (L ++ locT d.typ)) := hZ (HQ5.out.rch.alias HXL.out hon HDD.out (loc_dec m hmd).1);have hd9 := HM.out d (List.mem_of_getElem? HDD.out);have hPl : (locT d.typ).length <= 9000 := Nat.le_trans (locT_len d.typ) hd9;have HLC := hZ (fun (vv : Value) (wx : World) (hh : TyV wx vv d.typ) => rlocals_any (many d.typ) d.typ (Nat.le_refl _) hd9 vv wx hh);obtain ⟨Dn, dN, Ds, dS, rfl, rfl, rfl, rfl, rfl, rfl, rfl⟩ := us.seven;have HUS := hZ us;have HFD : Hid (FoundAt w6 fb n (fun i => if i = j then true else F i)) := hZ (by rw [hw6]; exact HQ5.out.found.put hjn)
         have HOW : Hid (OwnL w6 (fb + 1) (.slice (some ⟨g, 0, none⟩) L.length c) L) := hZ (by
          rw [hw6];exact HQ5.out.own.keep (fun b hb _ => Below.heap_setCell _ _ _ _ (by show b ≠ fb; omega)))
         have hMOST := HQ5.out.most;have hws : w.heap.size < w6.heap.size := by rw [HL6.out]; omega
         have KEEP : Hid (∀ wx : World, Below w6.heap.size w6 wx -> wx.cell? ⟨w.heap.size, 2, none⟩ = some (.slice (some ⟨gd, od, none⟩) n cd) /\ wx.cell? ⟨gd, od + j * 9 + 2, none⟩ = some (.int .i64 d.typ.kind) /\ wx.cell? ⟨gd, od + j * 9 + 2 + 1, none⟩ = some (.string d.typ.pkg) /\ wx.cell? ⟨gd, od + j * 9 + 2 + 2, none⟩ = some (.int .i64 d.typ.major) /\ wx.cell? ⟨gd, od + j * 9 + 2 + 3, none⟩ = some (.string d.typ.mod) /\ wx.cell? ⟨gd, od + j * 9 + 2 + 4, none⟩ = some (.string d.typ.name) /\ wx.cell? ⟨gd, od + j * 9 + 2 + 5, none⟩ = some (.slice Dn d.typ.names.length dN) /\ wx.cell? ⟨gd, od + j * 9 + 2 + 6, none⟩ = some (.slice Ds d.typ.subs.length dS)) := hZ (fun wx hb =>
          ⟨(hb.cell (p := ⟨w.heap.size, 2, none⟩) hws).trans x2, (hb.cell (p := ⟨gd, _, none⟩) hgd).trans t0, (hb.cell (p := ⟨gd, _, none⟩) hgd).trans t1, (hb.cell (p := ⟨gd, _, none⟩) hgd).trans t2, (hb.cell (p := ⟨gd, _, none⟩) hgd).trans t3, (hb.cell (p := ⟨gd, _, none⟩) hgd).trans t4, (hb.cell (p := ⟨gd, _, none⟩) hgd).trans t5, (hb.cell (p := ⟨gd, _, none⟩) hgd).trans t6⟩)
         clear hk3 hw6 us zs a1 hd9;go_upto_region 13 with fail
         rw [<- HW6.out];go_upto_region 15 with fail
         clear x2 t0 t1 t2 t3 t4 t5 t6 a0 q3 hfj hff;have hH0 := KEEP.out w6.drew (Below.drew (Below.refl _ _));refine AnyX.start (fun wx => wx.cell? ⟨w.heap.size, 2, none⟩ = some (.slice (some ⟨gd, od, none⟩) n cd) /\ wx.cell? ⟨gd, od + j * 9 + 2, none⟩ = some (.int .i64 d.typ.kind) /\ wx.cell? ⟨gd, od + j * 9 + 2 + 1, none⟩ = some (.string d.typ.pkg) /\ wx.cell? ⟨gd, od + j * 9 + 2 + 2, none⟩ = some (.int .i64 d.typ.major) /\ wx.cell? ⟨gd, od + j * 9 + 2 + 3, none⟩ = some (.string d.typ.mod) /\ wx.cell? ⟨gd, od + j * 9 + 2 + 4, none⟩ = some (.string d.typ.name) /\ wx.cell? ⟨gd, od + j * 9 + 2 + 5, none⟩ = some (.slice Dn d.typ.names.length dN) /\ wx.cell? ⟨gd, od + j * 9 + 2 + 6, none⟩ = some (.slice Ds d.typ.subs.length dS)) (fun k => decide (10 <= k)) (by kernel_rfl) ?_;refine AnyX.mv (i := 1) (v := ?_) rfl (fun _ _ _ h => h) (Or.inl ⟨by rfl, ?_⟩) ?_;rotate_left
         ·(intro wS _; go_simp; try with_reducible rfl)
         simp only [getElem_toArray, getElem_cons_succ, getElem_cons_zero];simp only [Act.put, setIfInBounds_toArray];simp only [set_cons_zero, set_cons_succ];refine AnyX.mv (i := 3) (v := ?_) rfl (fun _ _ _ h => h) (Or.inl ⟨by rfl, ?_⟩) ?_;rotate_left
         ·(intro wS _; go_simp; try with_reducible rfl)
         simp only [getElem_toArray, getElem_cons_succ, getElem_cons_zero];simp only [Act.put, setIfInBounds_toArray];simp only [set_cons_zero, set_cons_succ];refine AnyX.tk (i := 4) (v := ?_) rfl (fun _ _ _ h => h) hH0 (Or.inl ⟨by rfl, ?_⟩) ?_;rotate_left
         ·(intro wS hS; (try obtain ⟨c0, d0, d1, d2, d3, d4, d5, d6⟩ := hS); go_simp; try with_reducible rfl)
         simp only [getElem_toArray, getElem_cons_succ, getElem_cons_zero];simp only [Act.put, setIfInBounds_toArray];simp only [set_cons_zero, set_cons_succ];refine AnyX.mv (i := 5) (v := ?_) rfl (fun _ _ _ h => h) (Or.inl ⟨by rfl, ?_⟩) ?_;rotate_left
         ·(intro wS _; go_simp; try with_reducible rfl)
         simp only [getElem_toArray, getElem_cons_succ, getElem_cons_zero];simp only [Act.put, setIfInBounds_toArray];simp only [set_cons_zero, set_cons_succ];refine AnyX.mv (i := 6) (v := ?_) rfl (fun _ _ _ h => h) (Or.inl ⟨by rfl, ?_⟩) ?_;rotate_left
         ·(intro wS _; go_simp; try with_reducible rfl)
         simp only [getElem_toArray, getElem_cons_succ, getElem_cons_zero];simp only [Act.put, setIfInBounds_toArray];simp only [set_cons_zero, set_cons_succ];refine AnyX.mv (i := 7) (v := ?_) rfl (fun _ _ _ h => h) (Or.inl ⟨by rfl, ?_⟩) ?_;rotate_left
         ·(intro wS _; go_simp; try with_reducible rfl)
         simp only [getElem_toArray, getElem_cons_succ, getElem_cons_zero];simp only [Act.put, setIfInBounds_toArray];simp only [set_cons_zero, set_cons_succ];refine AnyX.tk (i := 8) (v := ?_) rfl (fun _ _ _ h => h) hH0 (Or.inl ⟨by rfl, ?_⟩) ?_;rotate_left
         ·(intro wS hS; (try obtain ⟨c0, d0, d1, d2, d3, d4, d5, d6⟩ := hS); go_simp; try with_reducible rfl)
         simp only [getElem_toArray, getElem_cons_succ, getElem_cons_zero];simp only [Act.put, setIfInBounds_toArray];simp only [set_cons_zero, set_cons_succ];clear hH0;obtain ⟨i0, hi, hz0, hz1, hz2⟩ := info_parts typ_info;have own0 : (w6.drew.alloc (.cells #[] 45)).ownsRow w6.heap.size 45 7 (.slice (some ⟨w6.heap.size, 0, none⟩) 0 0) 0 [] := World.ownsRow_lit (base := w6.heap.size) (e := 45) (size := 7) w6.drew #[] 0 (Nat.le_refl _) (by decide) rfl;obtain ⟨C, c1, c7, co, ce⟩ := HOW.out
         have hone : ∀ u ∈ C.flatten, u.oneCell' = true := fun u hu => by
          obtain ⟨l, hl, hu⟩ := List.mem_flatten.1 hu;obtain ⟨i, hi⟩ := List.mem_iff_getElem?.1 hl;have hil := (List.getElem?_eq_some_iff.1 hi).1;exact (ce i l _ hi (List.getElem?_eq_getElem (by omega))).one u hu
         have hBa : Below w6.heap.size w6 (w6.drew.alloc (.cells #[] 45)) := below_new (Below.drew (Below.refl _ _)) _;have coA : (w6.drew.alloc (.cells #[] 45)).ownsRow (fb + 1) 45 7 (.slice (some ⟨g, 0, none⟩) L.length c) L.length C.flatten := own_from co (fun b _ hlt => hBa.block b hlt);have hMXa : 0 + L.length <= maxLen := by unfold maxLen; omega
         refine AnyX.go 0 (by kernel_rfl) rfl rfl (fun K hK => ?_);simp only [getElem_toArray, getElem_cons_succ, getElem_cons_zero];go_simp
         refine hK.out _ _ (fun hoff _ => KEEP.out _ (below_new (Below.drew (Below.refl _ _)) _)) ?_;clear hK;(try simp only [Act.put, setIfInBounds_toArray]);(try simp only [set_cons_zero, set_cons_succ]);refine AnyX.go 2 (by kernel_rfl) rfl rfl (fun K hK => ?_);simp only [getElem_toArray, getElem_cons_succ, getElem_cons_zero];refine wp_append_rows (.tmp 55) (.tmp 56) 43 rfl w6.heap.size (fb + 1) 45 i0 _ 7 112 Tryz.underlying43 hi hz0 hz1 hz2 (by rfl) (by decide) (.slice (some ⟨w6.heap.size, 0, none⟩) 0 0) 0 [] rfl own0 (.slice (some ⟨g, 0, none⟩) L.length c) L.length C.flatten rfl coA hone hMXa (by omega) (by simp) ?_;intro v57 wA hown hgrow;rw [Nat.zero_add, List.nil_append] at hown;have HBA : Hid (Below w6.heap.size w6 wA) := hZ (below_grown hBa (by simp) own0 hgrow);clear hgrow coA own0 hBa;have KA := KEEP.out wA HBA.out;refine hK.out _ _ (fun hoff _ => KA) ?_;clear hK;(try simp only [Act.put, setIfInBounds_toArray]);(try simp only [set_cons_zero, set_cons_succ]);clear KA;refine AnyX.go 9 (by kernel_rfl) rfl rfl (fun K hK => ?_);simp only [getElem_toArray, getElem_cons_succ, getElem_cons_zero];go_simp
         refine (HLC.out (.agg #[.int .i64 d.typ.kind, .string d.typ.pkg, .int .i64 d.typ.major, .string d.typ.mod, .string d.typ.name, .slice Dn d.typ.names.length dN, .slice Ds d.typ.subs.length dS]) wA ⟨_, rfl, HUS.out.keep HBA.out⟩).mono ?_;rintro e wB ⟨v64, rfl, hoB, hbB⟩;have HBB : Hid (Below w6.heap.size w6 wB) := hZ (below_over HBA.out hbB);have hownB : wB.ownsRow w6.heap.size 45 7 v57 L.length C.flatten := own_from hown (fun b _ hlt => hbB.block b hlt);obtain ⟨D, d1', d7', do', de'⟩ := hoB
         have hone2 : ∀ u ∈ D.flatten, u.oneCell' = true := fun u hu => by
          obtain ⟨l, hl, hu⟩ := List.mem_flatten.1 hu;obtain ⟨i, hi⟩ := List.mem_iff_getElem?.1 hl;have hil := (List.getElem?_eq_some_iff.1 hi).1;exact (de' i l _ hi (List.getElem?_eq_getElem (by omega))).one u hu
         have KB := KEEP.out wB HBB.out;have hMXb : L.length + (locT d.typ).length <= maxLen := by unfold maxLen; omega
         refine hK.out _ _ (fun hoff _ => KB) ?_;clear hK;(try simp only [Act.put, setIfInBounds_toArray]);(try simp only [set_cons_zero, set_cons_succ]);clear KB hown hbB;refine AnyX.go 10 (by kernel_rfl) rfl rfl (fun K hK => ?_);simp only [getElem_toArray, getElem_cons_succ, getElem_cons_zero];refine wp_append_rows (.tmp 57) (.tmp 64) 43 rfl w6.heap.size wA.heap.size 45 i0 _ 7 112 Tryz.underlying43 hi hz0 hz1 hz2 (by rfl) (by decide) v57 L.length C.flatten rfl hownB v64 (locT d.typ).length D.flatten rfl do' hone2 hMXb (by omega) HBB.out.size ?_
         intro v65 wC hown hgrow;have HBC : Hid (Below w6.heap.size w6 wC) := hZ (below_grown HBB.out HBB.out.size hownB hgrow);have hnew : OwnL wC w6.heap.size v65 (L ++ locT d.typ) := OwnL.joined c1 c7 ce d1' d7' de' hown;obtain ⟨A65, c65, rfl⟩ := own_slice hown;have hlen : (L ++ locT d.typ).length = L.length + (locT d.typ).length := List.length_append
         have HQ6 : Hid (Rq m t fb n (fb + 1) W3 (fun i => if i = j then true else F i) (L ++ locT d.typ) A65 c65 wC) := hZ (by
          have hsz := HL6.out;refine ⟨HB6.out.trans (HBC.out.mono (by omega)), (HBC.out.block fb HFD.out.lt).trans HFD.out, HRA.out, by rw [hlen]; exact hnew.mono (by omega), ?_⟩;have h1 := HUF.out;rw [hlen]; omega)
         have HS2 : Hid (∀ y ∈ (L ++ locT d.typ).take (k + 1), ∀ i ∈ oneN m y, (fun i => if i = j then true else F i) i = true) := hZ (by
          rw [List.take_append_of_le_length (by omega)]; exact HS1.out)
         have HL' : Hid (unf n (fun i => if i = j then true else F i) <= U /\ (true = true -> unf n (fun i => if i = j then true else F i) < U)) := hZ (by have h1 := HL.out.1; have h2 := HUF.out; exact ⟨by omega, fun _ => by omega⟩)
         have HUW6 : Hid (unfW wC fb n = unf n (fun i => if i = j then true else F i)) := hZ (unfW_at HQ6.out.found);clear hown hgrow hnew hownB d1' d7' do' de' hone hone2 c1 c7 co ce hi hz0 hz1 hz2
         refine hK.out _ _ (fun hoff _ => absurd hoff (by decide)) ?_;clear hK;(try simp only [Act.put, setIfInBounds_toArray]);(try simp only [set_cons_zero, set_cons_succ]);refine AnyX.go 11 (by kernel_rfl) rfl rfl (fun K hK => ?_);simp only [getElem_toArray, getElem_cons_succ, getElem_cons_zero];go_simp
         refine hK.out _ _ (fun hoff _ => absurd hoff (by decide)) ?_;clear hK;(try simp only [Act.put, setIfInBounds_toArray]);(try simp only [set_cons_zero, set_cons_succ]);refine AnyX.done (by kernel_rfl) ?_ _;go_wp2_with fail
         go_roundw
         case rel => exact ⟨_, L ++ locT d.typ, A65, c65, k + 1, true, by rw [hlen], rfl, by go_num, by omega, HQ6, HL', HS2⟩
         case measure =>
          have h1 := HUF.out;rw [HUW.out, HUW6.out];generalize unf n (fun i => if i = j then true else F i) = U6 at h1 ⊢
          simp [intOf, lenOf]; omega
        ·have q3 : (d.kind == 3) = false := by simpa using hk3
         have HQ6 : Hid (Rq m t fb n (fb + 1) W3 (fun i => if i = j then true else F i) L (some ⟨g, 0, none⟩) c w6) := hZ (by rw [hw6]; exact HQ5.out.leaf hjn (HQ5.out.rch.leaf HXL.out hon HDD.out hk3));have HL' : Hid (unf n (fun i => if i = j then true else F i) <= U /\ (true = true -> unf n (fun i => if i = j then true else F i) < U)) := hZ (by have h1 := HL.out.1; have h2 := HUF.out; exact ⟨by omega, fun _ => by omega⟩)
         have HUW6 : Hid (unfW w6 fb n = unf n (fun i => if i = j then true else F i)) := hZ (unfW_at HQ6.out.found);clear hk3 hw6 HB6 t0 t1 t2 t3 t4 t5 t6 us zs a1;go_upto_region 13 with fail
         rw [<- HW6.out];go_wp2_with fail
         go_roundw
         case rel => exact ⟨_, L, _, c, k + 1, true, rfl, rfl, by go_num, by omega, HQ6, HL', HS1⟩
         case measure =>
          have h1 := HUF.out;rw [HUW.out, HUW6.out];generalize unf n (fun i => if i = j then true else F i) = U6 at h1 ⊢
          simp [intOf, lenOf]; omega
     ·obtain ⟨e1, e2⟩ := full_facts _ hz
      have HS1 := STEP F (fun _ h => h) (fun i hi => by rw [oneN_none hz] at hi; cases hi);clear hz STEP u4;go_wp2_with fail
      go_roundw
      case rel => exact ⟨F, L, _, c, k + 1, b, rfl, rfl, by go_num, by omega, HQ, HL, HS1⟩
      case measure => simp [intOf, lenOf]; omega
    ·have hkL : k = L.length := by omega
     have HC' : Hid (b = false -> ∀ x ∈ L, ∀ i ∈ oneN m x, F i = true) := hZ (fun _ x hx => HP.out x (by rw [List.take_of_length_le (by omega)]; exact hx))
     have HUW : Hid (unfW wo fb n = unf n F) := hZ (unfW_at HQ.out.found);go_wp2_with fail
     go_roundw
     case rel => exact ⟨F, L, A, c, b, rfl, rfl, HQ, HC'⟩
     case measure =>
      have h1 := HL.out;rw [HUW.out, HMW.out];cases b with
      | false => simp [oneOf]; omega
      | true => have := h1.2 rfl; simp [oneOf]; omega
end Go.Proofs.YtcdmgcgjonndpaaGreatDoor
namespace Go.Proofs.YtcdmgcgjonndpaaGreatDoor
open Go Go.RowKit Go.Shelf
open Go.Sort Go.Maps
open M
theorem rknown_cells (m : Mo) (l : List Value) (t : Ty) (l7 : List Value) (w : World) (h : MoAt w l m) (hv : ShL l7 t) (hI : m.imps.length <= 1000000) (hN : m.decs.length <= 1000000) :
  Calls Tryz.prog 61 #[.agg l.toArray, .agg l7.toArray] w fun e w' => e = .returned (.bool (knoN m t)) /\ Below w.heap.size w w' := by
 obtain ⟨An, cA, As, cS, rfl⟩ := hv
 have HV := hZ h
 obtain ⟨Ai, ci, Ad, cd, rfl, z1, z2, z3, hIm, hD⟩ := h
 have FD := hZ (fun w' (hb : Below w.heap.size w w') => rfind_any m _ t.name w' (HV.out.below hb) hN)
 obtain ⟨ni, hni⟩ : ∃ ni, ni = m.imps.length := ⟨_, rfl⟩
 have HIm := hZ hIm
 rw [<- hni] at hI z2 FD ⊢
 have HNI := hZ hni
 clear hIm hD HV hni
 obtain ⟨w0, hw0, B0, O0, O1, hl0⟩ := two_boxes w #[.string m.name, .slice Ai ni ci, .slice Ad m.decs.length cd] #[.int .i64 t.kind, .string t.pkg, .int .i64 t.major, .string t.mod, .string t.name, .slice An t.names.length cA, .slice As t.subs.length cS] 25 45
 have HW0 := hZ hw0
 have HB0 := hZ B0
 have HO0 := hZ O0
 have HO1 := hZ O1
 clear hw0 B0 O0 O1
 go_enter Tryz.func61, Tryz.ntmps61
 go_upto_region 1 with fail
 rw [<- HW0.out]
 clear HW0
 obtain ⟨o0, o1, o2⟩ := cq3 HO0.out
 have O1 := HO1.out
 obtain ⟨s0, s1, s2, s3, s4, s5, s6⟩ := cq7 O1
 simp at o0 o1 o2 s0 s1 s2 s3 s4 s5 s6
 clear O1
 by_cases hz : t.mod.size = 0
 ·have R : Hid (knoN m t = (typAt m t.name).isSome) := hZ (if_pos hz)
  obtain ⟨e1, e2⟩ := empty_facts _ hz;clear hz;go_wp2_with fail
  refine (FD.out w0 HB0.out).mono ?_; rintro e w1 ⟨rfl, hb1⟩
  have HB1 : Hid (Below w.heap.size w w1) := hZ (below_over HB0.out hb1);have HS := hZ (fndN_some m t.name);clear hb1;generalize fndN m t.name = F at HS ⊢
  go_wp2_with fail
  go_ret;exact ⟨by rw [R.out, <- HS.out]; try rfl, HB1.out⟩
 ·have R : Hid (knoN m t = impHas m t.mod) := hZ (if_neg hz)
  obtain ⟨e1, e2⟩ := full_facts _ hz;clear hz;go_wp2_with fail
  clear e1 e2 o0 o1 o2 s0 s1 s2 s3 s4 s5 s6;go_loopw [5] (fun iv wr => ∃ k : Nat, k <= ni /\ iv = .int .i64 k /\ Hid (Below w0.heap.size w0 wr) /\ Hid (∀ x ∈ m.imps.take k, decide (x.asn = t.mod) = false)) (fun iv _ => ni - (intOf iv).toNat)
  case atStart => exact ⟨0, by omega, rfl, hZ (Below.refl _ _), hZ (by simp)⟩
  case round =>
   obtain ⟨k, hk, rfl, HB, HNO⟩ := hrel;obtain ⟨wo, rfl⟩ : ∃ wo : World, wo = wr := ⟨_, rfl⟩;have HBw : Hid (Below w.heap.size w wo) := hZ (below_over HB0.out HB.out);have x1 := cZ ((HB.out.block w.heap.size (by omega)).trans HO0.out) 1;have s3 := cZ ((HB.out.block (w.heap.size + 1) hl0).trans HO1.out) 3;simp at x1 s3;by_cases hlt : k < ni
   ·obtain ⟨x, hx⟩ : ∃ x, m.imps[k]? = some x := ⟨_, List.getElem?_eq_getElem (by rw [<- HNI.out]; exact hlt)⟩
    obtain ⟨g, o, rfl, -, a0, a1, a2, a3, -⟩ := (HIm.out.below HBw.out).im hx;have hq := str_eq x.asn t.mod;have HXX := hZ hx;clear hx;by_cases hs : x.asn = t.mod
    ·have RR : Hid (impHas m t.mod = true) := hZ (List.any_eq_true.2 ⟨x, List.mem_of_getElem? HXX.out, by simpa using hs⟩)
     rw [decide_eq_true hs] at hq;clear hs;go_wp2_with fail
     go_quiet (fail)
     go_wp2_with fail
     go_ret;exact ⟨by rw [R.out, RR.out]; try rfl, below_drewN HBw.out _⟩
    ·have NX : Hid (∀ x ∈ m.imps.take (k + 1), decide (x.asn = t.mod) = false) := hZ (fun y hy => by
      rw [List.take_add_one, List.mem_append] at hy;rcases hy with h' | h'
      ·exact HNO.out y h'
      ·rw [HXX.out] at h'
       simp at h';rw [h']; simpa using hs)
     rw [decide_eq_false hs] at hq;clear hs;go_wp2_with fail
     go_quiet (fail)
     go_wp2_with fail
     go_roundw
     case rel => exact ⟨k + 1, by omega, by go_num, hZ (below_drewN HB.out _), NX⟩
     case measure => simp [intOf]; omega
   ·have RR : Hid (impHas m t.mod = false) := hZ (List.any_eq_false.2 (fun x hx => by
     have := HNO.out x (by rw [List.take_of_length_le (by rw [<- HNI.out]; omega)]; exact hx)
     simpa using this))
    go_wp2_with fail
    go_ret;exact ⟨by rw [R.out, RR.out]; try rfl, HBw.out⟩
theorem bad_five {m : Mo} {i : Nat} {d : De} (hd : m.decs[i]? = some d) : badN m i 5 = (m.decs.take i).any fun y => decide (y.name = d.name) && ((y.kind == 4) == (d.kind == 4)) := by
 unfold badN; rw [hd]; rfl
theorem bad_four {m : Mo} {i : Nat} {d : De} (hd : m.decs[i]? = some d) : badN m i 4 = !((locT d.typ).all (knoN m)) := by
 unfold badN; rw [hd]; rfl
theorem bad_six {m : Mo} {i : Nat} {d : De} (hd : m.decs[i]? = some d) : badN m i 6 = ((d.kind == 3) && (match typAt m d.name with | some k => reachB (entries m) (saidT m d.typ) k | none => false)) := by
 unfold badN; rw [hd]; rfl
theorem bad_ten {m : Mo} {i : Nat} {d : De} (hd : m.decs[i]? = some d) : badN m i 10 = hidB (entries m) (saidT m d.typ) := by
 unfold badN; rw [hd]; rfl
theorem rbad_any (m : Mo) (l : List Value) (i c : Nat) (w : World) (h : MoAt w l m) (hm : mayM m = true) (hM : ∀ d ∈ m.decs, many d.typ <= 9000) (hi : i < m.decs.length) (hc : c < 4) :
  Calls Tryz.prog 56 #[.agg l.toArray, .int .i64 i, .int .i64 (codeN c)] w fun e w' => e = .returned (.bool (badN m i (codeN c))) /\ Below w.heap.size w w' := by
 have HMD := hZ (mayM_parts hm).2.2.2
 have hn60 := (mayM_parts hm).2.1
 have hi20 := (mayM_parts hm).1
 have HM := hZ hM
 have HV := hZ h
 obtain ⟨d, hd⟩ : ∃ d, m.decs[i]? = some d := ⟨_, List.getElem?_eq_getElem hi⟩
 have RC := hZ (fun w' v (hb : Below w.heap.size w w') (hv : TyV w' v d.typ) => rreach_any m l d.typ v w' (h.below hb) hv hm (loc_dec m ((mayM_parts hm).2.2.2 d (List.mem_of_getElem? hd))).1 hM (hM d (List.mem_of_getElem? hd)))
 have LC := hZ (fun (vv : Value) (wx : World) (hh : TyV wx vv d.typ) => rlocals_any (many d.typ) d.typ (Nat.le_refl _) (hM d (List.mem_of_getElem? hd)) vv wx hh)
 have FC := hZ (fun w' (hb : Below w.heap.size w w') => rfind_any m l d.name w' (h.below hb) (by omega))
 have KC := hZ (fun w' x l7 (hb : Below w.heap.size w w') (hv : ShL l7 x) => rknown_cells m l x l7 w' (h.below hb) hv (by omega) (by omega))
 obtain ⟨Ai, ci, Ad, cd, rfl, z1, z2, z3, -, hDm⟩ := h
 have HDm := hZ hDm
 obtain ⟨n, hn⟩ : ∃ n, n = m.decs.length := ⟨_, rfl⟩
 have HN := hZ hn
 rw [<- hn] at RC FC KC hi hn60 ⊢
 have HDD := hZ hd
 obtain ⟨w0, hw0⟩ : ∃ w0, w0 = w.alloc (.cells #[.string m.name, .slice Ai m.imps.length ci, .slice Ad n cd] 25) := ⟨_, rfl⟩
 have B0 : Below w.heap.size w w0 := by rw [hw0]; exact below_new (Below.refl _ _) _
 have O0 : w0.heap[w.heap.size]? = some (.cells #[.string m.name, .slice Ai m.imps.length ci, .slice Ad n cd] 25 (0, 0)) := by rw [hw0]; exact heap_alloc_new w _
 have s0 : w0.heap.size = w.heap.size + 1 := by rw [hw0]; simp
 have s0' := s0
 obtain ⟨g, o, v0, v1, v2, v3, v4, v5, v6, rfl, hg, a0, a1, t0, t1, t2, t3, t4, t5, t6, us, zs⟩ := RowIn.de (hDm.below B0) hd
 obtain ⟨Bn, cB, Bs, dB, rfl, rfl, rfl, rfl, rfl, rfl, rfl⟩ := us.seven
 obtain ⟨w1, hw1⟩ : ∃ w1, w1 = w0.alloc (.cells #[.int .i64 d.kind, .string d.name, .int .i64 d.typ.kind, .string d.typ.pkg, .int .i64 d.typ.major, .string d.typ.mod, .string d.typ.name, .slice Bn d.typ.names.length cB, .slice Bs d.typ.subs.length dB] 47) := ⟨_, rfl⟩
 have B1 : Below w0.heap.size w0 w1 := by rw [hw1]; exact below_new (Below.refl _ _) _
 have O1 : w1.heap[w.heap.size + 1]? = some (.cells #[.int .i64 d.kind, .string d.name, .int .i64 d.typ.kind, .string d.typ.pkg, .int .i64 d.typ.major, .string d.typ.mod, .string d.typ.name, .slice Bn d.typ.names.length cB, .slice Bs d.typ.subs.length dB] 47 (0, 0)) := by rw [hw1, <- s0]; exact heap_alloc_new w0 _
 have hl1 : w.heap.size + 1 < w1.heap.size := (Array.getElem?_eq_some_iff.1 O1).1
 have HB1 := hZ (below_over B0 B1)
 have HO0 := hZ ((B1.block _ (by omega)).trans O0)
 have HO1 := hZ O1
 have HUS := hZ (us.keep B1)
 have HW0 := hZ hw0
 have HW1 := hZ hw1
 have x2 := cZ O0 2
 simp at x2
 have hi0 : (0 : Int) <= i := by omega
 have hi1 : (i : Int) < n := by omega
 clear hd hw0 hw1 B0 B1 O0 O1 s0 us zs hDm hn hm hM hg
 have HS0 := hZ s0'
 clear s0'
 obtain ⟨R, hR⟩ : ∃ R, R = badN m i (codeN c) := ⟨_, rfl⟩
 rw [<- hR]
 have h4 : c = 0 \/ c = 1 \/ c = 2 \/ c = 3 := by omega
 rcases h4 with rfl | rfl | rfl | rfl
 ·have RB : Hid (R = (m.decs.take i).any fun y => decide (y.name = d.name) && ((y.kind == 4) == (d.kind == 4))) := hZ (hR.trans (bad_five HDD.out))
  have hcode : codeN 0 = 5 := rfl;rw [hcode];clear hR;go_enter Tryz.func56, Tryz.ntmps56
  go_upto_region 1 with fail
  rw [<- HW0.out];go_upto_region 2 with fail
  rw [<- HW1.out, HS0.out];clear x2 a0 a1 t0 t1 t2 t3 t4 t5 t6 HW0 HW1 HS0;go_wp2_with fail
  go_loopw [8] (fun s8 wr => ∃ k : Nat, k <= i /\ s8 = .int .i64 k /\ Hid (((m.decs.take k).any fun y => decide (y.name = d.name) && ((y.kind == 4) == (d.kind == 4))) = false) /\ Hid (Below w1.heap.size w1 wr)) (fun s8 _ => i - (intOf s8).toNat)
  case atStart => exact ⟨0, by omega, rfl, hZ (by simp), hZ (Below.refl _ _)⟩
  case round =>
   obtain ⟨k, hk, rfl, HNO, HBo⟩ := hrel;obtain ⟨wo, rfl⟩ : ∃ wo : World, wo = wr := ⟨_, rfl⟩;have HBw : Hid (Below w.heap.size w wo) := hZ (below_over HB1.out HBo.out);by_cases hlt : k < i
   ·obtain ⟨y, hy⟩ : ∃ y, m.decs[k]? = some y := ⟨_, List.getElem?_eq_getElem (by rw [<- HN.out]; omega)⟩
    obtain ⟨g2, o2, u0, u1, u2, u3, u4, u5, u6, hAe, hg2, e0, e1, -⟩ := RowIn.de (HDm.out.below HBw.out) hy;cases hAe
    have x2 := cZ ((HBo.out.block w.heap.size (by omega)).trans HO0.out) 2;obtain ⟨y0, y1⟩ := cq2 ((HBo.out.block (w.heap.size + 1) hl1).trans HO1.out);simp at x2 y0 y1;have hq := str_eq y.name d.name;have HYY := hZ hy;have hk0 : (0 : Int) <= k := by omega
    have hk1 : (k : Int) < n := by omega
    have hk2 : (k : Int) < i := by omega
    obtain ⟨b1, hb1⟩ : ∃ b1, b1 = decide (y.name = d.name) := ⟨_, rfl⟩;obtain ⟨b2, hb2⟩ : ∃ b2, b2 = (y.kind == 4) := ⟨_, rfl⟩;obtain ⟨b3, hb3⟩ : ∃ b3, b3 = (d.kind == 4) := ⟨_, rfl⟩;rw [<- hb1] at hq;have STEP : Hid (((m.decs.take (k + 1)).any fun y => decide (y.name = d.name) && ((y.kind == 4) == (d.kind == 4))) = (b1 && (b2 == b3))) := hZ (by rw [any_snoc _ _ _ _ hy, HNO.out, Bool.false_or, hb1, hb2, hb3]);have hb2' := hb2.symm
    have hb3' := hb3.symm
    clear hy hb1 hb2 hb3;go_upto_region 6 with fail
    go_cut [47] (fun s47 wx => s47 = .bool (b1 && (b2 == b3)) /\ Below wo.heap.size wo wx)
    case first =>
     cases b1 with
     | true =>
      go_quiet (fail)
      go_wp2_with fail
      go_meet
      exact ⟨by first | rfl | (cases b2 <;> cases b3 <;> rfl), below_drewN (Below.refl _ _) _⟩
     | false =>
      go_quiet (fail)
      go_wp2_with fail
      go_meet
      exact ⟨rfl, below_drewN (Below.refl _ _) _⟩
    case rest =>
     obtain ⟨rfl, hbc⟩ := hcut;obtain ⟨wy, rfl⟩ : ∃ wy : World, wy = wc := ⟨_, rfl⟩;have HBy : Hid (Below w1.heap.size w1 wy) := hZ (below_over HBo.out hbc);clear hbc x2 y0 y1 e0 e1 hq hb2' hb3';obtain ⟨q, hq⟩ : ∃ q, q = (b1 && (b2 == b3)) := ⟨_, rfl⟩;rw [<- hq] at STEP ⊢;clear hq;cases q with
     | true =>
      have RES : Hid (((m.decs.take i).any fun y => decide (y.name = d.name) && ((y.kind == 4) == (d.kind == 4))) = true) := hZ (by
       have h1 := STEP.out;rw [List.any_eq_true] at h1 ⊢;obtain ⟨z, hz, hp⟩ := h1;exact ⟨z, List.take_subset_take_left _ (by omega) hz, hp⟩)
      go_wp2_with fail
      go_ret;exact ⟨by (rw [RB.out, RES.out] <;> rfl), below_over HB1.out HBy.out⟩
     | false =>
      go_wp2_with fail
      go_roundw
      case rel => exact ⟨k + 1, by omega, by go_num, STEP, HBy⟩
      case measure => simp [intOf]; omega
   ·obtain rfl : k = i := by omega
    go_wp2_with fail
    go_ret;exact ⟨by (rw [RB.out, HNO.out] <;> rfl), HBw.out⟩
 ·have RB : Hid (R = !((locT d.typ).all (knoN m))) := hZ (hR.trans (bad_four HDD.out))
  have hcode : codeN 1 = 4 := rfl;rw [hcode];clear hR;go_enter Tryz.func56, Tryz.ntmps56
  go_upto_region 1 with fail
  rw [<- HW0.out];go_upto_region 2 with fail
  rw [<- HW1.out, HS0.out];clear x2 a0 a1 t0 t1 t2 t3 t4 t5 t6 HW0 HW1 HS0;have O1 := HO1.out;obtain ⟨y0, y1, y2, y3, y4, y5, y6, y7, y8⟩ := cq9 O1;simp at y0 y1 y2 y3 y4 y5 y6 y7 y8;clear O1;go_wp2_with fail
  refine (LC.out (.agg #[.int .i64 d.typ.kind, .string d.typ.pkg, .int .i64 d.typ.major, .string d.typ.mod, .string d.typ.name, .slice Bn d.typ.names.length cB, .slice Bs d.typ.subs.length dB]) w1 ⟨_, rfl, HUS.out⟩).mono ?_; rintro e w2 ⟨v', rfl, ho2, hb2⟩
  obtain ⟨A2, c2, rfl⟩ : ∃ A c, v' = .slice A (locT d.typ).length c := by
   obtain ⟨C, -, -, h3, -⟩ := ho2;exact own_slice h3
  have HO2 := hZ ho2;have HB2 := hZ (below_over HB1.out hb2);have HBB2 := hZ hb2;have hlL : (locT d.typ).length <= 9000 := Nat.le_trans (locT_len d.typ) (HM.out d (List.mem_of_getElem? HDD.out));obtain ⟨L, hL⟩ : ∃ L, L = locT d.typ := ⟨_, rfl⟩;rw [<- hL] at HO2 hlL ⊢;have HLL := hZ hL;clear ho2 hb2 y0 y1 y2 y3 y4 y5 y6 y7 y8 hL;go_wp2_with fail
  go_loopw [10] (fun s10 wr => ∃ k : Nat, k <= L.length /\ s10 = .int .i64 k /\ Hid (∀ x ∈ L.take k, knoN m x = true) /\ Hid (Below w2.heap.size w2 wr)) (fun s10 _ => L.length - (intOf s10).toNat)
  case atStart => exact ⟨0, by omega, rfl, hZ (by simp), hZ (Below.refl _ _)⟩
  case round =>
   obtain ⟨k, hk, rfl, HNO, HBo⟩ := hrel;obtain ⟨wo, rfl⟩ : ∃ wo : World, wo = wr := ⟨_, rfl⟩;have HBw : Hid (Below w.heap.size w wo) := hZ (below_over HB2.out HBo.out);by_cases hlt : k < L.length
   ·obtain ⟨x, hx⟩ : ∃ x, L[k]? = some x := ⟨_, List.getElem?_eq_getElem hlt⟩
    obtain ⟨gx, Cn, cC, Cs, dC, rfl, -, hgx, hc⟩ := HO2.out.get hx;have e := fun j v hv => (HBo.out.cell (p := ⟨gx, k * 7 + j, none⟩) hgx).trans (hc j v hv)
    have e0 : wo.cell? ⟨gx, k * 7, none⟩ = _ := e 0 _ rfl;have e1 : wo.cell? ⟨gx, k * 7 + 1, none⟩ = _ := e 1 _ rfl;have e2 : wo.cell? ⟨gx, k * 7 + 2, none⟩ = _ := e 2 _ rfl;have e3 : wo.cell? ⟨gx, k * 7 + 3, none⟩ = _ := e 3 _ rfl;have e4 : wo.cell? ⟨gx, k * 7 + 4, none⟩ = _ := e 4 _ rfl;have e5 : wo.cell? ⟨gx, k * 7 + 5, none⟩ = _ := e 5 _ rfl;have e6 : wo.cell? ⟨gx, k * 7 + 6, none⟩ = _ := e 6 _ rfl;have O2 := (HBo.out.block w.heap.size (by have := HBB2.out.size; omega)).trans ((HBB2.out.block w.heap.size (by omega)).trans HO0.out);obtain ⟨x0, x1, x2⟩ := cq3 O2;simp at x0 x1 x2;have HXX := hZ hx;have hk0 : (0 : Int) <= k := by omega
    have hk1 : (k : Int) < L.length := by omega
    obtain ⟨q, hq⟩ : ∃ q, q = knoN m x := ⟨_, rfl⟩;have HQ := hZ hq;have cK : ∀ dd os, Calls Tryz.prog 61 #[.agg #[.string m.name, .slice Ai m.imps.length ci, .slice (some ⟨g, o, none⟩) n cd], .agg #[.int .i64 x.kind, .string x.pkg, .int .i64 x.major, .string x.mod, .string x.name, .slice Cn x.names.length cC, .slice Cs x.subs.length dC]] (Sort.grow (redrawn wo dd) os) fun e w'' => e = .returned (.bool q) /\ ∃ pp : Regrown, w'' = Sort.grow (redrawn wo pp.d) pp.os := fun dd os => Calls.regrown_of (by rw [hq]; exact KC.out _ x _ (HBw.out.trans ((below_regrown wo dd os).mono HBw.out.size)) ⟨Cn, cC, Cs, dC, rfl⟩)
    clear hx hc e O2 hq;go_upto_region 14 with fail
    have p0 := cell_regrown e0;have p1 := cell_regrown e1;have p2 := cell_regrown e2;have p3 := cell_regrown e3;have p4 := cell_regrown e4;have p5 := cell_regrown e5;have p6 := cell_regrown e6;have q0 := cell_regrown x0;have q1 := cell_regrown x1;have q2 := cell_regrown x2;clear e0 e1 e2 e3 e4 e5 e6 x0 x1 x2;refine wp_region_quiet_below (by kernel_rfl) (by kernel_rfl) ?_;repeat (any_goals (first | go_big_quiet_step (with_reducible exact cK _ _) | quiet_step (with_reducible exact cK _ _)))
    refine wpQuiet_nil ?_;intro w5 hw'
    have HB5 : Hid (Below w2.heap.size w2 w5) := hZ (by
     obtain ⟨⟨dq, osq⟩, hw''⟩ := hw';rw [hw''];exact below_over HBo.out (below_regrown wo dq osq))
    clear hw' cK p0 p1 p2 p3 p4 p5 p6 q0 q1 q2;cases q with
    | true =>
     have NX : Hid (∀ y ∈ L.take (k + 1), knoN m y = true) := hZ (fun y hy => by
      rw [List.take_add_one, HXX.out] at hy;rcases List.mem_append.1 hy with h | h
      ·exact HNO.out y h
      ·simp at h; rw [h]; exact HQ.out.symm)
     go_wp2_with fail
     go_roundw
     case rel => exact ⟨k + 1, by omega, by go_num, NX, HB5⟩
     case measure => simp [intOf]; omega
    | false =>
     have RES : Hid ((locT d.typ).all (knoN m) = false) := hZ (by rw [<- HLL.out]; exact List.all_eq_false.2 ⟨x, List.mem_of_getElem? HXX.out, by rw [<- HQ.out]; decide⟩);go_wp2_with fail
     go_ret;exact ⟨by (rw [RB.out, RES.out] <;> rfl), below_over HB2.out HB5.out⟩
   ·have RES : Hid ((locT d.typ).all (knoN m) = true) := hZ (by rw [<- HLL.out]; exact List.all_eq_true.2 (fun x hx => HNO.out x (by rw [List.take_of_length_le (by omega)]; exact hx)))
    go_wp2_with fail
    go_ret;exact ⟨by (rw [RB.out, RES.out] <;> rfl), HBw.out⟩
 ·have RB : Hid (R = ((d.kind == 3) && (match typAt m d.name with | some k => reachB (entries m) (saidT m d.typ) k | none => false))) := hZ (hR.trans (bad_six HDD.out))
  have hcode : codeN 2 = 6 := rfl;rw [hcode];clear hR;go_enter Tryz.func56, Tryz.ntmps56
  go_upto_region 1 with fail
  rw [<- HW0.out];go_upto_region 2 with fail
  rw [<- HW1.out, HS0.out];clear x2 a0 a1 t0 t1 t2 t3 t4 t5 t6 HW0 HW1 HS0;have O1 := HO1.out;obtain ⟨y0, y1, y2, y3, y4, y5, y6, y7, y8⟩ := cq9 O1;have O0 := HO0.out;obtain ⟨x0, x1, x2⟩ := cq3 O0;simp at y0 y1 y2 y3 y4 y5 y6 y7 y8 x0 x1 x2;clear O1 O0;go_wp2_with fail
  refine (RC.out w1 (.agg #[.int .i64 d.typ.kind, .string d.typ.pkg, .int .i64 d.typ.major, .string d.typ.mod, .string d.typ.name, .slice Bn d.typ.names.length cB, .slice Bs d.typ.subs.length dB]) HB1.out ⟨_, rfl, HUS.out⟩).mono ?_; rintro e w2 ⟨fb, rfl, hfb, hF, hb2⟩
  have HF := hZ hF;have HB2 := hZ (below_over HB1.out hb2);have HBB2 := hZ hb2;have hfl := HF.out.lt;clear hF hb2 y0 y1 y2 y3 y4 y5 y6 y7 y8 x0 x1 x2;have O1 := (HBB2.out.block (w.heap.size + 1) hl1).trans HO1.out;obtain ⟨y0, y1⟩ := cq2 O1;have O0 := (HBB2.out.block w.heap.size (by omega)).trans HO0.out;obtain ⟨x0, x1, x2⟩ := cq3 O0;simp at y0 y1 x0 x1 x2;obtain ⟨b3, hb3⟩ : ∃ b3, b3 = (d.kind == 3) := ⟨_, rfl⟩;have hb3' := hb3.symm
  have HB3' := hZ hb3
  clear hb3 O0 O1;cases b3 with
  | false =>
   go_wp2_with fail
   go_ret;exact ⟨by (rw [RB.out, <- HB3'.out] <;> rfl), HB2.out⟩
  | true =>
   cases hq : typAt m d.name with
   | none =>
    have HJ : Hid (fndN m d.name = -1) := hZ (by unfold fndN; rw [hq]);have HQ' := hZ hq
    clear hq;go_wp2_with fail
    refine (FC.out w2 HB2.out).mono ?_; rintro e w3 ⟨rfl, hb3⟩; rw [HJ.out]
    have HB3 := hZ (below_over HB2.out hb3);clear hb3;go_wp2_with fail
    go_ret;exact ⟨by (rw [RB.out, <- HB3'.out, HQ'.out] <;> rfl), HB3.out⟩
   | some j =>
    have HJ : Hid (fndN m d.name = (j : Int)) := hZ (by unfold fndN; rw [hq]);have HQ' := hZ hq
    have hj : j < n := by rw [HN.out]; exact typAt_lt hq
    have hj0 : (0 : Int) <= j := by omega
    have hj1 : (j : Int) < n := by omega
    clear hq;go_wp2_with fail
    refine (FC.out w2 HB2.out).mono ?_; rintro e w3 ⟨rfl, hb3⟩; rw [HJ.out]
    have HB3 := hZ (below_over HB2.out hb3);have O1 := (hb3.block (w.heap.size + 1) (by have := HBB2.out.size; omega)).trans ((HBB2.out.block (w.heap.size + 1) hl1).trans HO1.out);have HF3 : Hid (FoundAt w3 fb n (reachB (entries m) (saidT m d.typ))) := hZ ((hb3.block fb hfl).trans HF.out);have HBB3 := hZ hb3;clear hb3 y0 y1 x0 x1 x2;have y1 := cZ O1 1;have O0 := (HBB3.out.block w.heap.size (by have := HBB2.out.size; omega)).trans ((HBB2.out.block w.heap.size (by omega)).trans HO0.out);obtain ⟨x0, x1, x2⟩ := cq3 O0;simp at y1 x0 x1 x2;clear O0 O1;go_wp2_with fail
    refine (FC.out w3 HB3.out).mono ?_; rintro e w4 ⟨rfl, hb4⟩; rw [HJ.out]
    have f4 := FoundAt.cell (show FoundAt w4 fb n _ from (hb4.block fb (Nat.lt_of_lt_of_le hfl HBB3.out.size)).trans HF3.out) hj;have HB4 := hZ (below_over HB3.out hb4);obtain ⟨q, hq⟩ : ∃ q, q = reachB (entries m) (saidT m d.typ) j := ⟨_, rfl⟩;rw [<- hq] at f4;have HQ4 := hZ hq;clear hb4 hq y1 x0 x1 x2;go_wp2_with fail
    go_ret;exact ⟨by (rw [RB.out, <- HB3'.out, HQ'.out]; show _ = Ending.returned (.bool (true && reachB (entries m) (saidT m d.typ) j)); rw [<- HQ4.out] <;> rfl), HB4.out⟩
 ·have RB : Hid (R = hidB (entries m) (saidT m d.typ)) := hZ (hR.trans (bad_ten HDD.out))
  have hcode : codeN 3 = 10 := rfl;rw [hcode];clear hR;go_enter Tryz.func56, Tryz.ntmps56
  go_upto_region 1 with fail
  rw [<- HW0.out];go_upto_region 2 with fail
  rw [<- HW1.out, HS0.out];clear x2 a0 a1 t0 t1 t2 t3 t4 t5 t6 HW0 HW1 HS0;have O1 := HO1.out;obtain ⟨y0, y1, y2, y3, y4, y5, y6, y7, y8⟩ := cq9 O1;have O0 := HO0.out;obtain ⟨x0, x1, x2⟩ := cq3 O0;simp at y0 y1 y2 y3 y4 y5 y6 y7 y8 x0 x1 x2;clear O1 O0;go_wp2_with fail
  refine (RC.out w1 (.agg #[.int .i64 d.typ.kind, .string d.typ.pkg, .int .i64 d.typ.major, .string d.typ.mod, .string d.typ.name, .slice Bn d.typ.names.length cB, .slice Bs d.typ.subs.length dB]) HB1.out ⟨_, rfl, HUS.out⟩).mono ?_; rintro e w2 ⟨fb, rfl, hfb, hF, hb2⟩
  have HF := hZ hF;have HB2 := hZ (below_over HB1.out hb2);have HBB2 := hZ hb2;have hfl := HF.out.lt;clear hF hb2 y0 y1 y2 y3 y4 y5 y6 y7 y8 x0 x1 x2;go_wp2_with fail
  go_loopw [13] (fun s13 wr => ∃ k : Nat, k <= n /\ s13 = .int .i64 k /\ Hid (∀ (j : Nat) (e : De), j < k -> m.decs[j]? = some e -> Reach (entries m) (saidT m d.typ) j -> e.kind ≠ 2) /\ Hid (Below w2.heap.size w2 wr)) (fun s13 _ => n - (intOf s13).toNat)
  case atStart => exact ⟨0, by omega, rfl, hZ (fun j e h => by omega), hZ (Below.refl _ _)⟩
  case round =>
   obtain ⟨k, hk, rfl, HNO, HBo⟩ := hrel;obtain ⟨wo, rfl⟩ : ∃ wo : World, wo = wr := ⟨_, rfl⟩;have HBw : Hid (Below w.heap.size w wo) := hZ (below_over HB2.out HBo.out);by_cases hlt : k < n
   ·obtain ⟨y, hy⟩ : ∃ y, m.decs[k]? = some y := ⟨_, List.getElem?_eq_getElem (by rw [<- HN.out]; exact hlt)⟩
    obtain ⟨g2, o2, u0, u1, u2, u3, u4, u5, u6, hAe, hg2, e0, e1, -⟩ := RowIn.de (HDm.out.below HBw.out) hy;cases hAe
    have f0 := FoundAt.cell (show FoundAt wo fb n _ from (HBo.out.block fb hfl).trans HF.out) hlt;have O0 := (HBo.out.block w.heap.size (by have := HBB2.out.size; omega)).trans ((HBB2.out.block w.heap.size (by omega)).trans HO0.out);have x2 := cZ O0 2;simp at x2;have HYY := hZ hy;have hk0 : (0 : Int) <= k := by omega
    have hk1 : (k : Int) < n := by omega
    obtain ⟨b1, hb1⟩ : ∃ b1, b1 = reachB (entries m) (saidT m d.typ) k := ⟨_, rfl⟩;obtain ⟨b2, hb2⟩ : ∃ b2, b2 = (y.kind == 2) := ⟨_, rfl⟩;rw [<- hb1] at f0;have HB1' := hZ hb1
    have HB2' := hZ hb2
    have hb2' := hb2.symm
    clear hy e1 O0 hb1 hb2;by_cases hbb : (b1 && b2) = true
    ·rw [Bool.and_eq_true] at hbb
     obtain ⟨rfl, rfl⟩ := hbb
     have RES : Hid (hidB (entries m) (saidT m d.typ) = true) := hZ (by
      cases hh : hidB (entries m) (saidT m d.typ) with
      | true => rfl
      | false => exact absurd (by simpa using HB2'.out.symm) (hidB_iff.1 hh k y HYY.out (reachB_iff.1 HB1'.out.symm)))
     go_wp2_with fail
     go_ret;exact ⟨by (rw [RB.out, RES.out] <;> rfl), HBw.out⟩
    ·have NX : Hid (∀ (j : Nat) (e : De), j < k + 1 -> m.decs[j]? = some e -> Reach (entries m) (saidT m d.typ) j -> e.kind ≠ 2) := hZ (fun j e hj he hr => by
      rcases Nat.lt_or_ge j k with h | h
      ·exact HNO.out j e h he hr
      ·obtain rfl : j = k := by omega
       rw [HYY.out] at he;cases he
       intro h2;apply hbb
       rw [HB1'.out, HB2'.out, reachB_iff.2 hr, h2];rfl)
     cases b1 with
     | false =>
      clear hbb;go_wp2_with fail
      go_roundw
      case rel => exact ⟨k + 1, by omega, by go_num, NX, HBo⟩
      case measure => simp [intOf]; omega
     | true =>
      have hb0 : b2 = false := by simpa using hbb
      subst hb0;clear hbb;go_wp2_with fail
      go_roundw
      case rel => exact ⟨k + 1, by omega, by go_num, NX, HBo⟩
      case measure => simp [intOf]; omega
   ·have RES : Hid (hidB (entries m) (saidT m d.typ) = false) := hZ (hidB_iff.2 (fun j e he hr => HNO.out j e (by have := dec_lt he; rw [<- HN.out] at this; omega) he hr))
    go_wp2_with fail
    go_ret;exact ⟨by (rw [RB.out, RES.out] <;> rfl), HBw.out⟩
end Go.Proofs.YtcdmgcgjonndpaaGreatDoor
