/-
  Several texts in one.
-/
import Derived.Test.YteecgiebimdbhaaGreatDoorK24
open List (getElem_toArray getElem_cons_succ getElem_cons_zero set_cons_zero set_cons_succ setIfInBounds_toArray)
set_option maxRecDepth 100000
set_option maxHeartbeats 16000000
namespace Go.Proofs.YteecgiebimdbhaaGreatDoor
open Go Go.RowKit Go.Shelf
open Go.Sort Go.Maps
open M
theorem expand8_of (m : Mo) (pkg : ByteArray) (major : Int) (env : List If) (Ai : Option Addr) (ci : Nat) (Ad : Option Addr) (cd : Nat) (Ae : Option Addr) (ce : Nat) (t : Ty) (lt : List Value) (w : World) (hMo : MoAt w [.string m.name, .slice Ai m.imps.length ci, .slice Ad m.decs.length cd] m) (hcap : CapsAt [.string m.name, .slice Ai m.imps.length ci, .slice Ad m.decs.length cd] m)
  (hpk : pkg.size <= 9223372036854775807) (hE : RowIn ifR w Ae env) (hel : env.length <= 9223372036854775807) (hT : TyAt w lt t) (hM : ∀ d ∈ m.decs, many d.typ <= 9000) (hL : Lf t) (hdec : m.decs = []) :
  Calls Tryz.prog 127 #[.agg #[.string m.name, .slice Ai m.imps.length ci, .slice Ad m.decs.length cd], .string pkg, .int .i64 major, .slice Ae env.length ce, .agg lt.toArray] w (EpOut m pkg major env t w) := by
 have HT := hZ hT
 have HDEC := hZ hdec
 clear hdec
 obtain ⟨Bn, cB, Bs, dB, rfl, -⟩ := hT.parts
 obtain ⟨kb, hkb⟩ : ∃ kb, kb = w.heap.size + 1 + 1 + 1 := ⟨_, rfl⟩
 have HKB := hZ hkb
 have HNS : Hid (NsAt w [.string m.name, .slice Ai m.imps.length ci, .slice Ad m.decs.length cd, .string pkg, .int .i64 major, .slice Ae env.length ce, .map (some kb)] m pkg major env kb) := hZ (by
  obtain ⟨A1, c1, A2, c2, e, z1, z2, z3, hi, hd⟩ := hMo;simp at e;obtain ⟨⟨e1, e2⟩, e3, e4⟩ := e;subst e1 e2 e3 e4;exact ⟨_, _, _, _, _, _, rfl, z1, z2, z3, hpk, hel, hi, hd, hE⟩)
 obtain ⟨W3, hW3⟩ : ∃ W3, W3 = ((w.alloc (.cells #[.string m.name, .slice Ai m.imps.length ci, .slice Ad m.decs.length cd] 139)).alloc (.cells #[.int .i64 t.kind, .string t.pkg, .int .i64 t.major, .string t.mod, .string t.name, .slice Bn t.names.length cB, .slice Bs t.subs.length dB] 55)).alloc (.cells #[.int .i64 0, .string ⟨#[]⟩, .int .i64 0, .string ⟨#[]⟩, .string ⟨#[]⟩, .slice none 0 0, .slice none 0 0] 55) := ⟨_, rfl⟩
 obtain ⟨W2, hW2, B2, O0, O1, hl2⟩ := two_boxes w #[.string m.name, .slice Ai m.imps.length ci, .slice Ad m.decs.length cd] #[.int .i64 t.kind, .string t.pkg, .int .i64 t.major, .string t.mod, .string t.name, .slice Bn t.names.length cB, .slice Bs t.subs.length dB] 139 55
 have s2 : W2.heap.size = w.heap.size + 1 + 1 := by rw [hW2]; simp
 rw [<- hW2] at hW3
 have B3 : Below W2.heap.size W2 W3 := by rw [hW3]; exact below_new (Below.refl _ _) _
 have s3 : W3.heap.size = w.heap.size + 1 + 1 + 1 := by rw [hW3]; simp [s2]
 have O2 : W3.heap[w.heap.size + 1 + 1]? = some (.cells #[.int .i64 0, .string ⟨#[]⟩, .int .i64 0, .string ⟨#[]⟩, .string ⟨#[]⟩, .slice none 0 0, .slice none 0 0] 55 (0, 0)) := by rw [hW3, <- s2]; exact heap_alloc_new W2 _
 obtain ⟨W4, hW4⟩ : ∃ W4, W4 = W3.alloc (.map #[] 0) := ⟨_, rfl⟩
 have B4 : Below W3.heap.size W3 W4 := by rw [hW4]; exact below_new (Below.refl _ _) _
 have s4 : W4.heap.size = w.heap.size + 1 + 1 + 1 + 1 := by rw [hW4]; simp [s3]
 have P4 : PlMap w W4 kb m pkg major env := by rw [hW4, hkb, <- s3]; exact PlMap.made w W3 m pkg major env
 obtain ⟨W5, hW5⟩ : ∃ W5, W5 = W4.alloc (.cells #[.string m.name, .slice Ai m.imps.length ci, .slice Ad m.decs.length cd, .string pkg, .int .i64 major, .slice Ae env.length ce, .map (some kb)] 224) := ⟨_, rfl⟩
 have B5 : Below W4.heap.size W4 W5 := by rw [hW5]; exact below_new (Below.refl _ _) _
 have s5 : W5.heap.size = w.heap.size + 1 + 1 + 1 + 1 + 1 := by rw [hW5]; simp [s4]
 have N5 : W5.heap[w.heap.size + 1 + 1 + 1 + 1]? = some (.cells #[.string m.name, .slice Ai m.imps.length ci, .slice Ad m.decs.length cd, .string pkg, .int .i64 major, .slice Ae env.length ce, .map (some kb)] 224 (0, 0)) := by rw [hW5, <- s4]; exact heap_alloc_new W4 _
 have HB5 : Hid (Below w.heap.size w W5) := hZ (below_over (below_over (below_over B2 B3) B4) B5)
 have HP5 : Hid (PlMap w W5 kb m pkg major env) := hZ (P4.kept (B5.block _ (by omega)))
 have T5 : W5.heap[w.heap.size + 1]? = some (.cells #[.int .i64 t.kind, .string t.pkg, .int .i64 t.major, .string t.mod, .string t.name, .slice Bn t.names.length cB, .slice Bs t.subs.length dB] 55 (0, 0)) := (B5.block _ (by omega)).trans ((B4.block _ (by omega)).trans ((B3.block _ (by omega)).trans O1))
 have Z5 : W5.heap[w.heap.size + 1 + 1]? = some (.cells #[.int .i64 0, .string ⟨#[]⟩, .int .i64 0, .string ⟨#[]⟩, .string ⟨#[]⟩, .slice none 0 0, .slice none 0 0] 55 (0, 0)) := (B5.block _ (by omega)).trans ((B4.block _ (by omega)).trans O2)
 have M3' : W3.heap[w.heap.size]? = some (.cells #[.string m.name, .slice Ai m.imps.length ci, .slice Ad m.decs.length cd] 139 (0, 0)) := (B3.block _ (by omega)).trans O0
 obtain ⟨m0, m1, m2⟩ := cq3 M3'
 simp at m0 m1 m2
 have HN5 := hZ N5
 have HT5 := hZ T5
 have HZ5 := hZ Z5
 have KEEP : Hid (∀ wx, Below W5.heap.size W5 wx \/ W5.grownBy wx (some kb) -> (wx.heap[w.heap.size + 1 + 1 + 1 + 1]? = some (.cells #[.string m.name, .slice Ai m.imps.length ci, .slice Ad m.decs.length cd, .string pkg, .int .i64 major, .slice Ae env.length ce, .map (some kb)] 224 (0, 0)) /\ wx.heap[w.heap.size + 1]? = some (.cells #[.int .i64 t.kind, .string t.pkg, .int .i64 t.major, .string t.mod, .string t.name, .slice Bn t.names.length cB, .slice Bs t.subs.length dB] 55 (0, 0)) /\ wx.heap[w.heap.size + 1 + 1]? = some (.cells #[.int .i64 0, .string ⟨#[]⟩, .int .i64 0, .string ⟨#[]⟩, .string ⟨#[]⟩, .slice none 0 0, .slice none 0 0] 55 (0, 0)) /\ w.heap.size + 1 + 1 + 1 + 1 < wx.heap.size)) := hZ (fun wx h => by
  have hg : W5.grownBy wx (some kb) := h.elim (fun hb => grown_of hb) id;have hz := hg.size;refine ⟨kept_grown N5 (by omega) hg, kept_grown T5 (by omega) hg, kept_grown Z5 (by omega) hg, by omega⟩)
 have MC := hZ (mayN_any m pkg major env kb Ai ci Ad cd Ae ce W5 (HNS.out.below HB5.out) (hMo.below HB5.out) hM hcap)
 have KC := hZ (fun (wx : World) (hb : Below W5.heap.size W5 wx) => mayK_any t (.agg #[.int .i64 t.kind, .string t.pkg, .int .i64 t.major, .string t.mod, .string t.name, .slice Bn t.names.length cB, .slice Bs t.subs.length dB]) wx ⟨_, rfl, HT.out.keep (below_over HB5.out hb)⟩)
 have HMo := hZ hMo
 have HM := hZ hM
 have HW3 := hZ hW3
 have HW2 := hZ hW2
 have HW4 := hZ hW4
 have HW5 := hZ hW5
 have HS5 := hZ s5
 have FAIL : Hid (∀ (c : Int) (wx : World), c ≠ 0 -> EpIs m pkg major env t c zTy -> Below w.heap.size w wx -> EpOut m pkg major env t w (.returned (.tuple #[.agg #[.int .i64 0, .string ⟨#[]⟩, .int .i64 0, .string ⟨#[]⟩, .string ⟨#[]⟩, .slice none 0 0, .slice none 0 0], .iface 32 (.int .i64 c)])) (wx.setRow (w.heap.size + 1 + 1) #[.int .i64 0, .string ⟨#[]⟩, .int .i64 0, .string ⟨#[]⟩, .string ⟨#[]⟩, .slice none 0 0, .slice none 0 0])) := hZ (fun c wx hc he hb => by
  exact ⟨c, zTy, [.int .i64 0, .string ⟨#[]⟩, .int .i64 0, .string ⟨#[]⟩, .string ⟨#[]⟩, .slice none 0 0, .slice none 0 0], he, by unfold errV; rw [if_neg hc], zero_at _, setRow_below hb (by omega) _⟩)
 clear hT hMo hcap hE hM hW2 hW3 hW4 hW5 B2 B3 B4 B5 O0 O1 O2 P4 N5 T5 Z5 M3' s4 hl2 hkb hpk s5
 go_enter Tryz.func127, Tryz.ntmps127
 go_upto_region 1 with fail
 rw [<- HW2.out, <- HW3.out]
 have hmm := @run_makeMap Tryz.prog
 go_upto_region 2 with fail
 clear hmm
 have hk1' : kb + 1 = w.heap.size + 1 + 1 + 1 + 1 := by rw [HKB.out]
 simp only [s2, s3, <- HKB.out, <- HW4.out, <- HW5.out]
 simp only [hk1']
 clear hk1'
 clear m0 m1 m2
 obtain ⟨N5, T5, Z5, hl5⟩ := KEEP.out W5 (.inl (Below.refl _ _))
 obtain ⟨n0, n1, n2, n3, n4, n5, n6⟩ := cq7 N5
 simp at n0 n1 n2 n3 n4 n5 n6
 go_wp2_with fail
 refine MC.out.mono ?_; rintro e w6 ⟨b, rfl, hb, hb6⟩
 have HB6 := hZ hb6
 have HBB := hZ hb
 clear hb6 hb MC n0 n1 n2 n3 n4 n5 n6 N5 T5 Z5 hl5
 obtain ⟨N6, T6, Z6, hl6⟩ := KEEP.out w6 (.inl HB6.out)
 cases b with
 | false =>
  have FIN := hZ (FAIL.out 1 w6 (by decide) (.inl ⟨rfl, rfl, fun h => by have := HBB.out.2 h.1; cases this⟩) (below_over HB5.out HB6.out));have HZ6 := hZ Z6;clear N6 T6;go_wp2_with (first | (((with_reducible refine wpList_putRow 55 (w.heap.size + 1 + 1) #[.int .i64 0, .string ⟨#[]⟩, .int .i64 0, .string ⟨#[]⟩, .string ⟨#[]⟩, .slice none 0 0, .slice none 0 0] _ _ Z6 ?_ ?_ ?_ ?_ ?_ ?_); exact tySize; rfl; exact tyOne; iterate 2 (focus (first | (go_simp; done) | rfl)))))
  exact ret_agg (fn := Tryz.f127) (vs := [.int .i64 0, .string ⟨#[]⟩, .int .i64 0, .string ⟨#[]⟩, .string ⟨#[]⟩, .slice none 0 0, .slice none 0 0]) (b := w.heap.size + 1 + 1) (x := .iface 32 (.int .i64 1)) rfl rfl rfl Tryz.underlying55 (by kernel_rfl) (cell7 (setRow_heap w6 (w.heap.size + 1 + 1) _ _ _ _ HZ6.out)) rfl FIN.out
 | true =>
 have HMN : Hid (MayN m pkg major env) := hZ (HBB.out.1 rfl)
 have CK := hZ (KC.out w6 HB6.out)
 obtain ⟨q, hq⟩ : ∃ q, q = mayT t := ⟨_, rfl⟩
 rw [<- hq] at CK
 have HQ := hZ hq
 obtain ⟨y0, y1, y2, y3, y4, y5, y6⟩ := cq7 T6
 simp at y0 y1 y2 y3 y4 y5 y6
 clear hq N6 T6 Z6 hl6
 go_wp2_with fail
 refine CK.out.mono ?_; rintro e w7 ⟨rfl, hb7⟩
 have HB7 := hZ (below_over HB6.out hb7)
 clear hb7 CK y0 y1 y2 y3 y4 y5 y6
 obtain ⟨N7, T7, Z7, hl7⟩ := KEEP.out w7 (.inl HB7.out)
 cases q with
 | false =>
  have FIN := hZ (FAIL.out 1 w7 (by decide) (.inl ⟨rfl, rfl, fun h => by rw [<- HQ.out] at h; cases h.2⟩) (below_over HB5.out HB7.out));have HZ7 := hZ Z7;clear N7 T7;go_wp2_with (first | (((with_reducible refine wpList_putRow 55 (w.heap.size + 1 + 1) #[.int .i64 0, .string ⟨#[]⟩, .int .i64 0, .string ⟨#[]⟩, .string ⟨#[]⟩, .slice none 0 0, .slice none 0 0] _ _ Z7 ?_ ?_ ?_ ?_ ?_ ?_); exact tySize; rfl; exact tyOne; iterate 2 (focus (first | (go_simp; done) | rfl)))))
  exact ret_agg (fn := Tryz.f127) (vs := [.int .i64 0, .string ⟨#[]⟩, .int .i64 0, .string ⟨#[]⟩, .string ⟨#[]⟩, .slice none 0 0, .slice none 0 0]) (b := w.heap.size + 1 + 1) (x := .iface 32 (.int .i64 1)) rfl rfl rfl Tryz.underlying55 (by kernel_rfl) (cell7 (setRow_heap w7 (w.heap.size + 1 + 1) _ _ _ _ HZ7.out)) rfl FIN.out
 | true =>
 have HMT : Hid (mayT t = true) := hZ HQ.out.symm
 obtain ⟨xs, hxs⟩ : ∃ xs, xs = allK m t m.decs.length := ⟨_, rfl⟩
 have HXS := hZ hxs
 have HXL : Hid (∀ s ∈ xs, Lf s) := hZ (fun s hs => by
  rw [hxs] at hs;rcases allK_mem hs with rfl | ⟨k, d, hd, -⟩
  ·exact hL
  ·rw [HDEC.out] at hd; simp at hd)
 have AC := hZ (allN_any m pkg major env kb Ai ci Ad cd Ae ce t _ w w7 HMo.out (below_over HB5.out HB7.out) HT.out (mayN_parts HMN.out).1 (mayN_parts HMN.out).2.1 HMT.out HM.out)
 rw [<- hxs] at AC
 have hxl : xs.length <= 1000000 := by
  have h1 := allK_len m t m.decs.length;have h2 := (mayM_parts (mayN_parts HMN.out).1).2.1;rw [hxs]; omega
 obtain ⟨n0, n1, n2, n3, n4, n5, n6⟩ := cq7 N7
 obtain ⟨y0, y1, y2, y3, y4, y5, y6⟩ := cq7 T7
 simp at n0 n1 n2 n3 n4 n5 n6 y0 y1 y2 y3 y4 y5 y6
 clear hxs N7 T7 Z7
 go_wp2_with fail
 refine AC.out.mono ?_; rintro e w8 ⟨A8, c8, rfl, hO8, hb8⟩
 have HB8 := hZ (below_over HB7.out hb8)
 have SK8 : Hid (SubsK w w8 kb A8 xs) := hZ (hO8.subs (by have := HKB.out; omega))
 clear hO8 hb8 AC n0 n1 n2 n3 n4 n5 n6 y0 y1 y2 y3 y4 y5 y6 hl7
 have HW58 : Hid (Below w.heap.size w w8) := hZ (below_over HB5.out HB8.out)
 have HP8 : Hid (PlMap w w8 kb m pkg major env) := hZ (HP5.out.kept (HB8.out.block _ (by have := HKB.out; have := HS5.out; omega)))
 have hkw : w.heap.size <= kb := by have := HKB.out; omega
 have FL := hZ (fun c wx s (l : List Value) (hs : s ∈ xs) hT hb hm => fails_of w kb m pkg major env c [.string m.name, .slice Ai m.imps.length ci, .slice Ad m.decs.length cd, .string pkg, .int .i64 major, .slice Ae env.length ce, .map (some kb)] HNS.out hkw (many s) s (Nat.le_refl _) (HXL.out s hs) l wx hT hb hm)
 go_upto_region 6 with fail
 go_loopw [39] (fun s39 wr => ∃ k : Nat, k <= 2 /\ s39 = .int .i64 k /\ Hid (PlMap w wr kb m pkg major env /\ w8.grownBy wr (some kb)) /\ Hid (1 <= k -> xs.any (failT (lookM m pkg major env) 4) = false) /\ Hid (2 <= k -> xs.any (failT (lookM m pkg major env) 9) = false)) (fun s39 _ => 2 - (intOf s39).toNat)
 case atStart => exact ⟨0, by omega, rfl, hZ ⟨HP8.out, grown_of (Below.refl _ _)⟩, hZ (fun h => by omega), hZ (fun h => by omega)⟩
 case round =>
  obtain ⟨k, hk, rfl, HI, H4, H9⟩ := hrel;obtain ⟨wo, rfl⟩ : ∃ wo : World, wo = wr := ⟨_, rfl⟩;have G5 : Hid (W5.grownBy wo (some kb)) := hZ (grown_over (grown_of HB8.out) HI.out.2);obtain ⟨No, To, Zo, hlo⟩ := KEEP.out wo (.inr G5.out);have HBo : Hid (Below w.heap.size w wo) := hZ (below_grow HW58.out HI.out.2 hkw);by_cases hk0 : k = 0
  ·subst hk0
   obtain ⟨wb, hwb⟩ : ∃ wb, wb = wo.alloc (.cells #[.int .i64 4] 32) := ⟨_, rfl⟩;have Bb : Below wo.heap.size wo wb := by rw [hwb]; exact below_new (Below.refl _ _) _
   have Cb : wb.heap[wo.heap.size]? = some (.cells #[.int .i64 4] 32 (0, 0)) := by rw [hwb]; exact heap_alloc_new wo _
   have hkl : kb < wo.heap.size := by have := HKB.out; omega
   have HKL := hZ hkl;have Nb : wb.heap[w.heap.size + 1 + 1 + 1 + 1]? = some (.cells #[.string m.name, .slice Ai m.imps.length ci, .slice Ad m.decs.length cd, .string pkg, .int .i64 major, .slice Ae env.length ce, .map (some kb)] 224 (0, 0)) := (Bb.block _ hlo).trans No;have HWb := hZ hwb;have HCb := hZ Cb;have HNb := hZ Nb;have HZo := hZ Zo;have HBb := hZ Bb
   have CC := hZ (contains_exp2 w kb m pkg major env (failT (lookM m pkg major env) 4) (w.heap.size + 1 + 1 + 1 + 1) wo.heap.size A8 c8 xs.length xs wb rfl (by omega) ((SK8.out.grown HI.out.2).grown (grown_of Bb)) hkw (below_over HBo.out Bb) (HI.out.1.kept (Bb.block _ hkl))
    (fun s hs l wx hT hb hm hg => one_expand w kb m pkg major env 4 _ _ _ Ai ci Ad cd Ae ce s l wx (kept_grown HNb.out (by have := HKB.out; omega) hg) (kept_grown HCb.out (by omega) hg) hT hb hm (fun wy hby hmy => FL.out 4 wy s l hs hT hby hmy)))
   obtain ⟨r, hr⟩ : ∃ r, r = xs.any (failT (lookM m pkg major env) 4) := ⟨_, rfl⟩;rw [<- hr] at CC;have HR := hZ hr;have hix : ∀ wz : World, (Instr.index 225 (.agg #[.int .i64 4, .int .i64 9]) (.int .i64 0)).run Tryz.prog wz = .ok (.int .i64 4) wz := fun _ => by kernel_rfl
   clear hwb Bb Cb Nb No To Zo hr hkl hk;go_upto_region 8 with fail
   clear hix;rw [<- HWb.out];clear HWb;go_wp2_with fail
   refine CC.out.mono ?_; rintro e w9 ⟨rfl, hm9, hg9⟩
   have hs9 := hg9.size;have hsb := HBb.out.size;have hkl := HKL.out;have Z9 : w9.heap[w.heap.size + 1 + 1]? = some (.cells #[.int .i64 0, .string ⟨#[]⟩, .int .i64 0, .string ⟨#[]⟩, .string ⟨#[]⟩, .slice none 0 0, .slice none 0 0] 55 (0, 0)) := kept_grown ((HBb.out.block _ (by omega)).trans HZo.out) (by have := HKB.out; omega) hg9;have C9 : w9.heap[wo.heap.size]? = some (.cells #[.int .i64 4] 32 (0, 0)) := kept_grown HCb.out (by omega) hg9;have HG9 : Hid (PlMap w w9 kb m pkg major env /\ w8.grownBy w9 (some kb)) := hZ ⟨hm9, grown_over HI.out.2 (grown_over (grown_of HBb.out) hg9)⟩;have HB9 : Hid (Below w.heap.size w w9) := hZ (below_grow HW58.out HG9.out.2 hkw);clear CC hm9 hg9;cases r with
   | true =>
    have FIN := hZ (FAIL.out 4 w9.drew (by decide) ((.inr ⟨HMN.out, HMT.out, .inl ⟨rfl, rfl, by
      have h := HR.out.symm;rw [HXS.out, any_name (mayN_parts HMN.out).1 (mayN_parts HMN.out).2.1 HMT.out] at h;simpa using h⟩⟩)) (below_over HB9.out (Below.drew (Below.refl _ _))))
    have HZ9 := hZ Z9;have HC9 := hZ C9;have c0 : w9.drew.cell? ⟨wo.heap.size, 0, none⟩ = some (.int .i64 4) := by have := cZ C9 0; simpa using this
    clear C9 Z9;go_upto_region 10 with fail
    refine AnyX.start (fun wx => wx.cell? ⟨wo.heap.size, 0, none⟩ = some (.int .i64 4)) (fun _ => false) (by kernel_rfl) ?_;refine AnyX.mv (i := 0) (v := ?_) rfl (fun _ _ _ h => h) (Or.inl ⟨by rfl, ?_⟩) ?_;rotate_left
    ·(intro wS _; go_simp; try with_reducible rfl)
    simp only [getElem_toArray, getElem_cons_succ, getElem_cons_zero];simp only [Act.put, setIfInBounds_toArray, set_cons_zero, set_cons_succ];refine AnyX.tk (i := 1) (v := ?_) rfl (fun _ _ _ h => h) c0 (Or.inl ⟨by rfl, ?_⟩) ?_;rotate_left
    ·(intro wS hS; (try obtain c0 := hS); go_simp; try with_reducible rfl)
    simp only [getElem_toArray, getElem_cons_succ, getElem_cons_zero];simp only [Act.put, setIfInBounds_toArray, set_cons_zero, set_cons_succ];refine AnyX.mv (i := 2) (v := ?_) rfl (fun _ _ _ h => h) (Or.inl ⟨by rfl, ?_⟩) ?_;rotate_left
    ·(intro wS _; go_simp; try with_reducible rfl)
    simp only [getElem_toArray, getElem_cons_succ, getElem_cons_zero];simp only [Act.put, setIfInBounds_toArray, set_cons_zero, set_cons_succ];refine AnyX.go 3 (by kernel_rfl) rfl rfl (fun K hK => ?_);simp only [getElem_toArray, getElem_cons_succ, getElem_cons_zero];refine wp_store_row 55 (.tmp 10) (.tmp 46) rfl (w.heap.size + 1 + 1) #[.int .i64 0, .string ⟨#[]⟩, .int .i64 0, .string ⟨#[]⟩, .string ⟨#[]⟩, .slice none 0 0, .slice none 0 0] rfl rfl _ _ HZ9.out tySize rfl tyOne ?_;refine hK.out _ _ (fun hoff _ => (World.cell?_of_block (w := w9) (a := ⟨wo.heap.size, 0, none⟩) (setRow_other _ _ _ _ (show wo.heap.size ≠ w.heap.size + 1 + 1 by omega))).trans c0) ?_;clear hK;(try simp only [Act.put, setIfInBounds_toArray, set_cons_zero, set_cons_succ]);refine AnyX.mv (i := 4) (v := ?_) rfl (fun _ _ _ h => h) (Or.inl ⟨by rfl, ?_⟩) ?_;rotate_left
    ·(intro wS _; go_simp; try with_reducible rfl)
    simp only [getElem_toArray, getElem_cons_succ, getElem_cons_zero];simp only [Act.put, setIfInBounds_toArray, set_cons_zero, set_cons_succ];refine AnyX.done (by kernel_rfl) ?_ _;go_wp2_with fail
    exact ret_agg (fn := Tryz.f127) (vs := [.int .i64 0, .string ⟨#[]⟩, .int .i64 0, .string ⟨#[]⟩, .string ⟨#[]⟩, .slice none 0 0, .slice none 0 0]) (b := w.heap.size + 1 + 1) (x := .iface 32 (.int .i64 4)) rfl rfl rfl Tryz.underlying55 (by kernel_rfl) (cell7 (setRow_heap w9 (w.heap.size + 1 + 1) _ _ _ _ HZ9.out)) rfl FIN.out
   | false =>
    clear Z9 C9;go_wp2_with fail
    go_roundw
    case rel => exact ⟨1, by omega, by go_num, HG9, hZ (fun _ => HR.out.symm), hZ (fun h => by omega)⟩
    case measure => simp [intOf]
  ·by_cases hk1 : k = 1
   ·subst hk1
    obtain ⟨wb, hwb⟩ : ∃ wb, wb = wo.alloc (.cells #[.int .i64 9] 32) := ⟨_, rfl⟩;have Bb : Below wo.heap.size wo wb := by rw [hwb]; exact below_new (Below.refl _ _) _
    have Cb : wb.heap[wo.heap.size]? = some (.cells #[.int .i64 9] 32 (0, 0)) := by rw [hwb]; exact heap_alloc_new wo _
    have hkl : kb < wo.heap.size := by have := HKB.out; omega
    have HKL := hZ hkl;have Nb : wb.heap[w.heap.size + 1 + 1 + 1 + 1]? = some (.cells #[.string m.name, .slice Ai m.imps.length ci, .slice Ad m.decs.length cd, .string pkg, .int .i64 major, .slice Ae env.length ce, .map (some kb)] 224 (0, 0)) := (Bb.block _ hlo).trans No;have HWb := hZ hwb;have HCb := hZ Cb;have HNb := hZ Nb;have HZo := hZ Zo;have HBb := hZ Bb
    have CC := hZ (contains_exp2 w kb m pkg major env (failT (lookM m pkg major env) 9) (w.heap.size + 1 + 1 + 1 + 1) wo.heap.size A8 c8 xs.length xs wb rfl (by omega) ((SK8.out.grown HI.out.2).grown (grown_of Bb)) hkw (below_over HBo.out Bb) (HI.out.1.kept (Bb.block _ hkl))
     (fun s hs l wx hT hb hm hg => one_expand w kb m pkg major env 9 _ _ _ Ai ci Ad cd Ae ce s l wx (kept_grown HNb.out (by have := HKB.out; omega) hg) (kept_grown HCb.out (by omega) hg) hT hb hm (fun wy hby hmy => FL.out 9 wy s l hs hT hby hmy)))
    obtain ⟨r, hr⟩ : ∃ r, r = xs.any (failT (lookM m pkg major env) 9) := ⟨_, rfl⟩;rw [<- hr] at CC;have HR := hZ hr;have hix : ∀ wz : World, (Instr.index 225 (.agg #[.int .i64 4, .int .i64 9]) (.int .i64 1)).run Tryz.prog wz = .ok (.int .i64 9) wz := fun _ => by kernel_rfl
    clear hwb Bb Cb Nb No To Zo hr hkl hk;go_upto_region 8 with fail
    clear hix;rw [<- HWb.out];clear HWb;go_wp2_with fail
    refine CC.out.mono ?_; rintro e w9 ⟨rfl, hm9, hg9⟩
    have hs9 := hg9.size;have hsb := HBb.out.size;have hkl := HKL.out;have Z9 : w9.heap[w.heap.size + 1 + 1]? = some (.cells #[.int .i64 0, .string ⟨#[]⟩, .int .i64 0, .string ⟨#[]⟩, .string ⟨#[]⟩, .slice none 0 0, .slice none 0 0] 55 (0, 0)) := kept_grown ((HBb.out.block _ (by omega)).trans HZo.out) (by have := HKB.out; omega) hg9;have C9 : w9.heap[wo.heap.size]? = some (.cells #[.int .i64 9] 32 (0, 0)) := kept_grown HCb.out (by omega) hg9;have HG9 : Hid (PlMap w w9 kb m pkg major env /\ w8.grownBy w9 (some kb)) := hZ ⟨hm9, grown_over HI.out.2 (grown_over (grown_of HBb.out) hg9)⟩;have HB9 : Hid (Below w.heap.size w w9) := hZ (below_grow HW58.out HG9.out.2 hkw);clear CC hm9 hg9;cases r with
    | true =>
     have FIN := hZ (FAIL.out 9 w9.drew (by decide) ((.inr ⟨HMN.out, HMT.out, .inr (by
       have h4 := H4.out (by omega);rw [HXS.out, any_name (mayN_parts HMN.out).1 (mayN_parts HMN.out).2.1 HMT.out] at h4;have hkn : (locT t).all (knoN m) = true := by simpa using h4
       have h := HR.out.symm;rw [HXS.out, any_none (mayN_parts HMN.out).1 (mayN_parts HMN.out).2.1 HMT.out hkn] at h;exact ⟨hkn, .inl ⟨rfl, rfl, h⟩⟩)⟩)) (below_over HB9.out (Below.drew (Below.refl _ _))))
     have HZ9 := hZ Z9;have HC9 := hZ C9;have c0 : w9.drew.cell? ⟨wo.heap.size, 0, none⟩ = some (.int .i64 9) := by have := cZ C9 0; simpa using this
     clear C9 Z9;go_upto_region 10 with fail
     refine AnyX.start (fun wx => wx.cell? ⟨wo.heap.size, 0, none⟩ = some (.int .i64 9)) (fun _ => false) (by kernel_rfl) ?_;refine AnyX.mv (i := 0) (v := ?_) rfl (fun _ _ _ h => h) (Or.inl ⟨by rfl, ?_⟩) ?_;rotate_left
     ·(intro wS _; go_simp; try with_reducible rfl)
     simp only [getElem_toArray, getElem_cons_succ, getElem_cons_zero];simp only [Act.put, setIfInBounds_toArray, set_cons_zero, set_cons_succ];refine AnyX.tk (i := 1) (v := ?_) rfl (fun _ _ _ h => h) c0 (Or.inl ⟨by rfl, ?_⟩) ?_;rotate_left
     ·(intro wS hS; (try obtain c0 := hS); go_simp; try with_reducible rfl)
     simp only [getElem_toArray, getElem_cons_succ, getElem_cons_zero];simp only [Act.put, setIfInBounds_toArray, set_cons_zero, set_cons_succ];refine AnyX.mv (i := 2) (v := ?_) rfl (fun _ _ _ h => h) (Or.inl ⟨by rfl, ?_⟩) ?_;rotate_left
     ·(intro wS _; go_simp; try with_reducible rfl)
     simp only [getElem_toArray, getElem_cons_succ, getElem_cons_zero];simp only [Act.put, setIfInBounds_toArray, set_cons_zero, set_cons_succ];refine AnyX.go 3 (by kernel_rfl) rfl rfl (fun K hK => ?_);simp only [getElem_toArray, getElem_cons_succ, getElem_cons_zero];refine wp_store_row 55 (.tmp 10) (.tmp 46) rfl (w.heap.size + 1 + 1) #[.int .i64 0, .string ⟨#[]⟩, .int .i64 0, .string ⟨#[]⟩, .string ⟨#[]⟩, .slice none 0 0, .slice none 0 0] rfl rfl _ _ HZ9.out tySize rfl tyOne ?_;refine hK.out _ _ (fun hoff _ => (World.cell?_of_block (w := w9) (a := ⟨wo.heap.size, 0, none⟩) (setRow_other _ _ _ _ (show wo.heap.size ≠ w.heap.size + 1 + 1 by omega))).trans c0) ?_;clear hK;(try simp only [Act.put, setIfInBounds_toArray, set_cons_zero, set_cons_succ]);refine AnyX.mv (i := 4) (v := ?_) rfl (fun _ _ _ h => h) (Or.inl ⟨by rfl, ?_⟩) ?_;rotate_left
     ·(intro wS _; go_simp; try with_reducible rfl)
     simp only [getElem_toArray, getElem_cons_succ, getElem_cons_zero];simp only [Act.put, setIfInBounds_toArray, set_cons_zero, set_cons_succ];refine AnyX.done (by kernel_rfl) ?_ _;go_wp2_with fail
     exact ret_agg (fn := Tryz.f127) (vs := [.int .i64 0, .string ⟨#[]⟩, .int .i64 0, .string ⟨#[]⟩, .string ⟨#[]⟩, .slice none 0 0, .slice none 0 0]) (b := w.heap.size + 1 + 1) (x := .iface 32 (.int .i64 9)) rfl rfl rfl Tryz.underlying55 (by kernel_rfl) (cell7 (setRow_heap w9 (w.heap.size + 1 + 1) _ _ _ _ HZ9.out)) rfl FIN.out
    | false =>
     clear Z9 C9;go_wp2_with fail
     go_roundw
     case rel => exact ⟨2, by omega, by go_num, HG9, hZ (fun _ => H4.out (by omega)), hZ (fun _ => HR.out.symm)⟩
     case measure => simp [intOf]
   ·obtain rfl : k = 2 := by omega
    clear hk0 hk1;obtain ⟨ok1, ok2, ok3, ok4, ok5, -⟩ := mayN_parts HMN.out;have h4 := H4.out (by omega);have h9 := H9.out (by omega);rw [HXS.out, any_name ok1 ok2 HMT.out] at h4;have hkn : (locT t).all (knoN m) = true := by simpa using h4
    rw [HXS.out, any_none ok1 ok2 HMT.out hkn] at h9;obtain ⟨hh, u, hu⟩ := exp_some (pkg := pkg) (major := major) ok1 ok2 (reaches m t) (many t) t (Nat.le_refl _) (Nat.le_refl _) (good_all HMT.out hkn h9);have HU := hZ hu;have HOU : Hid (allOk u = true) := hZ (exp_ok ok1 ok3 ok4 ok5 hh t u (may_ok HMT.out) hu);have HKN := hZ hkn;have HL9 := hZ h9;obtain ⟨we, hwe⟩ : ∃ we, we = wo.alloc (.cells #[.string m.name, .slice Ai m.imps.length ci, .slice Ad m.decs.length cd, .string pkg, .int .i64 major, .slice Ae env.length ce, .map (some kb), .int .i64 0, .bool false] 229) := ⟨_, rfl⟩;have Be : Below wo.heap.size wo we := by rw [hwe]; exact below_new (Below.refl _ _) _
    have Ee : we.heap[wo.heap.size]? = some (.cells #[.string m.name, .slice Ai m.imps.length ci, .slice Ad m.decs.length cd, .string pkg, .int .i64 major, .slice Ae env.length ce, .map (some kb), .int .i64 0, .bool false] 229 (0, 0)) := by rw [hwe]; exact heap_alloc_new wo _
    have se : we.heap.size = wo.heap.size + 1 := by rw [hwe]; simp
    have hwz := HBo.out.size;have hkl : kb < wo.heap.size := by have := HKB.out; omega
    have CX := hZ (xp_of w kb wo.heap.size m pkg major env Ai ci Ad cd Ae ce HNS.out hkw hwz (by omega) hh t u hL (may_ok HMT.out) hu 0 false 1 _ we (fun _ => by omega) (by omega) (by omega) HT.out (below_over HBo.out Be) (by omega) Ee (HI.out.1.kept (Be.block _ hkl)));have HWe := hZ hwe;have HBe : Hid (Below w.heap.size w we) := hZ (below_over HBo.out Be);have Te := (Be.block _ (by omega)).trans To;have HZe : Hid (we.heap[w.heap.size + 1 + 1]? = some (.cells #[.int .i64 0, .string ⟨#[]⟩, .int .i64 0, .string ⟨#[]⟩, .string ⟨#[]⟩, .slice none 0 0, .slice none 0 0] 55 (0, 0))) := hZ ((Be.block _ (by omega)).trans Zo);obtain ⟨n0, n1, n2, n3, n4, n5, n6⟩ := cq7 No;obtain ⟨y0, y1, y2, y3, y4, y5, y6⟩ := cq7 Te;simp at n0 n1 n2 n3 n4 n5 n6 y0 y1 y2 y3 y4 y5 y6;have HSE := hZ se;clear h4 h9 hkn hu hwe Be Ee No To Zo Te SK8 HP8 se;go_upto_region 13 with fail
    rw [<- HWe.out];clear n0 n1 n2 n3 n4 n5 n6;go_wp2_with fail
    refine CX.out.mono ?_; rintro e w9 ⟨l9, made', lg', rfl, ⟨v, hsh⟩, he9, hp9, hg9, hlg, hty⟩
    obtain ⟨Vn, cV, Vs, dV, rfl⟩ := hsh;have se := HSE.out;have hs9 := hg9.size;have B9 : Hid (Below w.heap.size w w9) := hZ (Gr2.base HBe.out hg9 hkw hwz);have Z9 : w9.heap[w.heap.size + 1 + 1]? = some (.cells #[.int .i64 0, .string ⟨#[]⟩, .int .i64 0, .string ⟨#[]⟩, .string ⟨#[]⟩, .slice none 0 0, .slice none 0 0] 55 (0, 0)) := (hg9.block _ (by omega) (by have := HKB.out; omega) (by omega)).trans HZe.out;obtain ⟨w10, hw10⟩ : ∃ w10, w10 = w9.alloc (.cells #[.int .i64 v.kind, .string v.pkg, .int .i64 v.major, .string v.mod, .string v.name, .slice Vn v.names.length cV, .slice Vs v.subs.length dV] 55) := ⟨_, rfl⟩;have B10 : Below w9.heap.size w9 w10 := by rw [hw10]; exact below_new (Below.refl _ _) _
    have Y10 : w10.heap[w9.heap.size]? = some (.cells #[.int .i64 v.kind, .string v.pkg, .int .i64 v.major, .string v.mod, .string v.name, .slice Vn v.names.length cV, .slice Vs v.subs.length dV] 55 (0, 0)) := by rw [hw10]; exact heap_alloc_new w9 _
    have HY10 := hZ Y10;have E10 : w10.heap[wo.heap.size]? = some (.cells #[.string m.name, .slice Ai m.imps.length ci, .slice Ad m.decs.length cd, .string pkg, .int .i64 major, .slice Ae env.length ce, .map (some kb), .int .i64 made', .bool lg'] 229 (0, 0)) := (B10.block _ (by omega)).trans he9;have Z10 : w10.heap[w.heap.size + 1 + 1]? = some (.cells #[.int .i64 0, .string ⟨#[]⟩, .int .i64 0, .string ⟨#[]⟩, .string ⟨#[]⟩, .slice none 0 0, .slice none 0 0] 55 (0, 0)) := (B10.block _ (by omega)).trans Z9;have HZ10 := hZ Z10;have HB10 : Hid (Below w.heap.size w w10) := hZ (below_over B9.out B10);have HTY : Hid (lg' = false -> TyAt w10 [.int .i64 v.kind, .string v.pkg, .int .i64 v.major, .string v.mod, .string v.name, .slice Vn v.names.length cV, .slice Vs v.subs.length dV] u) := hZ (fun h => ((hty h).2.free).keep B10);have HLG := hZ hlg;have HW10 := hZ hw10;have x8 := cZ E10 8;simp at x8;clear hw10 B10 E10 hp9 hg9 hlg hty he9 CX y0 y1 y2 y3 y4 y5 y6 Z9;go_upto_region 14 with fail
    rw [<- HW10.out];cases lg' with
    | true =>
     have FIN := hZ (FAIL.out 3 w10 (by decide) (.inr ⟨HMN.out, HMT.out, .inr ⟨HKN.out, .inr ⟨HL9.out, hh, u, HU.out, .inl ⟨rfl, rfl, by
      have := HLG.out.symm
      simp only [Bool.or_eq_true, decide_eq_true_eq, Bool.false_or] at this;omega⟩⟩⟩⟩) HB10.out)
     clear Y10;go_wp2_with (first | (((with_reducible refine wpList_putRow 55 (w.heap.size + 1 + 1) #[.int .i64 0, .string ⟨#[]⟩, .int .i64 0, .string ⟨#[]⟩, .string ⟨#[]⟩, .slice none 0 0, .slice none 0 0] _ _ Z10 ?_ ?_ ?_ ?_ ?_ ?_); exact tySize; rfl; exact tyOne; iterate 2 (focus (first | (go_simp; done) | rfl)))))
     exact ret_agg (fn := Tryz.f127) (vs := [.int .i64 0, .string ⟨#[]⟩, .int .i64 0, .string ⟨#[]⟩, .string ⟨#[]⟩, .slice none 0 0, .slice none 0 0]) (b := w.heap.size + 1 + 1) (x := .iface 32 (.int .i64 3)) rfl rfl rfl Tryz.underlying55 (by kernel_rfl) (cell7 (setRow_heap w10 (w.heap.size + 1 + 1) _ _ _ _ HZ10.out)) rfl FIN.out
    | false =>
     have HSM : Hid (many u <= 500 /\ deep u <= 32) := hZ (by
      have := HLG.out.symm
      simp only [Bool.or_eq_false_iff, decide_eq_false_iff_not, Bool.false_or] at this;omega)
     have CF := hZ (fresh_any u (by have := HSM.out.1; omega) (fit_ok _ u (Nat.le_refl _) HOU.out) _ w10 (HTY.out rfl));obtain ⟨y0, y1, y2, y3, y4, y5, y6⟩ := cq7 Y10;simp at y0 y1 y2 y3 y4 y5 y6;clear Y10 Z10;go_wp2_with fail
     refine CF.out.mono ?_; rintro e w11 ⟨l11, rfl, hT11, hb11⟩
     obtain ⟨Dn, dn, Ds, ds, rfl, -⟩ := hT11.parts;have hz10 : w.heap.size + 1 + 1 < w10.heap.size := (Array.getElem?_eq_some_iff.1 HZ10.out).1;have Z11 : w11.heap[w.heap.size + 1 + 1]? = some (.cells #[.int .i64 0, .string ⟨#[]⟩, .int .i64 0, .string ⟨#[]⟩, .string ⟨#[]⟩, .slice none 0 0, .slice none 0 0] 55 (0, 0)) := (hb11.block _ hz10).trans HZ10.out;have HZ11 := hZ Z11
     have FIN : Hid (EpOut m pkg major env t w (.returned (.tuple #[.agg #[.int .i64 u.kind, .string u.pkg, .int .i64 u.major, .string u.mod, .string u.name, .slice Dn u.names.length dn, .slice Ds u.subs.length ds], .nilIface])) (w11.setRow (w.heap.size + 1 + 1) #[.int .i64 u.kind, .string u.pkg, .int .i64 u.major, .string u.mod, .string u.name, .slice Dn u.names.length dn, .slice Ds u.subs.length ds])) := hZ
      ⟨0, u, [.int .i64 u.kind, .string u.pkg, .int .i64 u.major, .string u.mod, .string u.name, .slice Dn u.names.length dn, .slice Ds u.subs.length ds], .inr ⟨HMN.out, HMT.out, .inr ⟨HKN.out, .inr ⟨HL9.out, hh, u, HU.out, .inr ⟨rfl, rfl, HSM.out⟩⟩⟩⟩, rfl, hT11.move (by simp) fun b hb hS => ⟨by omega, setRow_other _ _ _ _ (by omega)⟩, setRow_below (below_over HB10.out hb11) (by omega) _⟩
     clear hT11 hb11 CF y0 y1 y2 y3 y4 y5 y6;go_wp2_with (first | (((with_reducible refine wpList_putRow 55 (w.heap.size + 1 + 1) #[.int .i64 u.kind, .string u.pkg, .int .i64 u.major, .string u.mod, .string u.name, .slice Dn u.names.length dn, .slice Ds u.subs.length ds] _ _ Z11 ?_ ?_ ?_ ?_ ?_ ?_); exact tySize; rfl; exact tyOne; iterate 2 (focus (first | (go_simp; done) | rfl)))))
     exact ret_agg (fn := Tryz.f127) (vs := [.int .i64 u.kind, .string u.pkg, .int .i64 u.major, .string u.mod, .string u.name, .slice Dn u.names.length dn, .slice Ds u.subs.length ds]) (b := w.heap.size + 1 + 1) rfl rfl rfl Tryz.underlying55 (by kernel_rfl) (cell7 (setRow_heap w11 (w.heap.size + 1 + 1) _ _ _ _ HZ11.out)) rfl FIN.out
end Go.Proofs.YteecgiebimdbhaaGreatDoor
namespace Go.Proofs.YteecgiebimdbhaaGreatDoor
open Go.RowKit
open M
def restL (S : Toks) (l : List Im) (i : Nat) (xs : List Ln) : Res Us := endU S l (linesR S (61 - xs.length) i xs)
theorem lineR_ok {S : Toks} {k : Int} {i j c : Nat} {x : Ln} (h : lineR S k i = .ok x j c) : i + 4 < j /\ c = 0 := by
  have key : ∀ {k : Int} {m s : ByteArray}, typL k m s (atR S (i + 4)) = .ok x j c -> i + 4 < j /\ c = 0 := fun {k m s} h => by
    cases e : atR S (i + 4) with
    | err b k => rw [e] at h; cases h
    | ok t j' c' =>
      rw [e] at h;cases h
      exact ⟨atR_le e, rfl⟩
  unfold lineR at h
  split at h
  · cases h
  split at h
  · cases h
  split at h
  · split at h
    · cases h
    split at h
    · cases h
    exact key h
  · split at h
    · cases h
    split at h
    · cases h
    exact key h
theorem line11_yes {S : Toks} {l : List Im} {i i5 b5 : Nat} {xs : List Ln} {x : Ln} (hn : xs.length < 60) (hk : lineK S i ≠ 0) (h : badR b5 i5 (.ok x i5 0) = lineR S (lineK S i) (i + 1)) :
    restL S l i xs = badR b5 i5 (restL S l i5 (xs ++ [x])) /\ (b5 = 0 -> i < i5) := by
  have e0 : ∀ f, linesR S (f + 1) i xs = if lineK S i = 0 then .ok xs i 0 else if 60 <= xs.length then .err 3 i else match lineR S (lineK S i) (i + 1) with
      | .err b j => .err b j
      | .ok x j _ => linesR S f j (xs ++ [x]) := fun f => rfl
  have e1 : (xs ++ [x]).length = xs.length + 1 := by simp
  unfold restL
  rw [show 61 - xs.length = (60 - xs.length) + 1 by omega, e0, if_neg hk, if_neg (by omega), <- h, e1, show 61 - (xs.length + 1) = 60 - xs.length by omega];by_cases hb : b5 = 0
  · subst hb
    have h6 := (lineR_ok h.symm).1;rw [badR_0, badR_0];exact ⟨rfl, fun _ => by omega⟩
  · rw [badR_ne _ _ hb, badR_ne _ _ hb]
    exact ⟨rfl, fun e => absurd e hb⟩
theorem line11_many {S : Toks} {l : List Im} {i : Nat} {xs : List Ln} (hn : xs.length = 60) (hk : lineK S i ≠ 0) : restL S l i xs = .err 3 i := by
  unfold restL
  rw [hn]
  have e0 : linesR S (0 + 1) i xs = if lineK S i = 0 then .ok xs i 0 else if 60 <= xs.length then .err 3 i else match lineR S (lineK S i) (i + 1) with
      | .err b j => .err b j
      | .ok x j _ => linesR S 0 j (xs ++ [x]) := rfl
  rw [show 61 - 60 = 0 + 1 by omega, e0, if_neg hk, if_pos (by omega)];rfl
def stopL (S : Toks) (l : List Im) (i : Nat) (xs : List Ln) : Res Us := if i < S.n then .err 2 i else .ok ⟨l, xs⟩ i 0
theorem line11_no {S : Toks} {l : List Im} {i b : Nat} {xs : List Ln} (hn : xs.length <= 60) (h : b = 0 -> lineK S i = 0) : badR b i (restL S l i xs) = badR b i (stopL S l i xs) := by
  by_cases hb : b = 0
  · subst hb
    rw [badR_0, badR_0];unfold restL stopL
    rw [show 61 - xs.length = (60 - xs.length) + 1 by omega];unfold linesR
    rw [if_pos (h rfl)];rfl
  · rw [badR_ne _ _ hb, badR_ne _ _ hb]
theorem lineK_use {S : Toks} {i : Nat} (h : keyS S i kUse = true) : lineK S i = 1 := by unfold lineK; rw [if_pos h]
theorem lineK_is {S : Toks} {i : Nat} (h1 : keyS S i kUse = false) (h : keyS S i kIs = true) : lineK S i = 2 := by unfold lineK; rw [if_neg (by rw [h1]; decide), if_pos h]
theorem lineK_no {S : Toks} {i : Nat} (h1 : keyS S i kUse = false) (h : keyS S i kIs = false) : lineK S i = 0 := by unfold lineK; rw [if_neg (by rw [h1]; decide), if_neg (by rw [h]; decide)]
theorem key_one {S : Toks} {i : Nat} (h : keyS S i kIs = true) : keyS S i kUse = false := by
  unfold keyS at h ⊢
  simp only [Bool.and_eq_true, beq_iff_eq] at h;rw [h.2];have : (kIs == kUse) = false := by decide
  rw [this]; simp
def sgL (k : Int) : List UInt8 := if k = 1 then [58] else [61]
def nmL (S : Toks) (k : Int) (i : Nat) : Bool := if k = 1 then S.small i else S.great i
theorem lineR_step (S : Toks) {k : Int} (hk : k = 1 \/ k = 2) (j : Nat) : lineR S k j =
    if S.small j = false then .err 2 j else if S.sign (j + 1) [46] = false then .err 2 (j + 1) else if nmL S k (j + 2) = false then .err 2 (j + 2) else if S.sign (j + 3) (sgL k) = false then .err 2 (j + 3) else typL k (S.T j) (S.T (j + 2)) (atR S (j + 4)) := by
  unfold lineR nmL sgL
  rcases hk with rfl | rfl
  · rw [if_pos rfl, if_pos rfl, if_pos rfl]
  · have e : ¬ (2 : Int) = 1 := by decide
    simp only [if_neg e]
end Go.Proofs.YteecgiebimdbhaaGreatDoor
namespace Go.Proofs.YteecgiebimdbhaaGreatDoor
open Go Go.RowKit Go.Shelf
open Go.Sort Go.Maps
open M
structure RxN (w4 : World) (g : Nat) (tt : Ty) (A6 : Option Addr) (n c6 : Nat) (A5 : Option Addr) (c5 : Nat) (wr : World) : Prop where
  below : ∀ b, b < g -> wr.heap[b]? = w4.heap[b]?
  stay : wr.os = w4.os /\ wr.tape = w4.tape /\ wr.output = w4.output /\ w4.heap.size <= wr.heap.size
  box : wr.heap[g]? = some (.cells #[.int .i64 tt.kind, .string tt.pkg, .int .i64 tt.major, .string tt.mod, .string tt.name, .slice A5 tt.names.length c5, .slice A6 n c6] 55 (0, 0))
  own : wr.ownsRow (g + 1) 9 1 (.slice A5 tt.names.length c5) tt.names.length (tt.names.map Value.string)
structure RxI (wb : World) (l2 : Nat) (tt : Ty) (A5 : Option Addr) (c5 : Nat) (xs : List Ty) (A6 : Option Addr) (c6 : Nat) (wr : World) : Prop where
  below : Below wb.heap.size wb wr
  box : wr.heap[wb.heap.size]? = some (.cells #[.int .i64 tt.kind, .string tt.pkg, .int .i64 tt.major, .string tt.mod, .string tt.name, .slice A5 tt.names.length c5, .slice A6 xs.length c6] 55 (0, 0))
  names : NamesAt (strike (fun b => b < wb.heap.size + 1 \/ l2 <= b) wr) A5 tt.names
  rows : Row tR l2 xs A6 c6 wr
  lo : wb.heap.size + 1 <= l2
  lole : l2 <= wr.heap.size
end Go.Proofs.YteecgiebimdbhaaGreatDoor
namespace Go.Proofs.YteecgiebimdbhaaGreatDoor
open Go.RowKit Go.Shelf
open Go.Sort Go.Maps
open M
structure Rq (m : Mo) (t : Ty) (fb n lo : Nat) (W : World) (F : Nat -> Bool) (L : List Ty) (A : Option Addr) (c : Nat) (wr : World) : Prop where
  below : Below fb W wr
  found : FoundAt wr fb n F
  rch : Rch m t F L
  own : OwnL wr lo (.slice A L.length c) L
  most : L.length + 9000 * unf n F <= 9000 * (n + 1)
end Go.Proofs.YteecgiebimdbhaaGreatDoor
namespace Go.Proofs.YteecgiebimdbhaaGreatDoor
open Go Go.RowKit Go.Shelf
open Go.Sort Go.Maps
open M
theorem said_plain {m : Mo} : ∀ (N : Nat) (t : Ty), many t <= N -> plainT t = true -> saidT m t = [] /\ locT t = [] := by
  intro N;induction N with
  | zero => intro t h; have := many_pos t; omega
  | succ N ih =>
    intro t hN hp;obtain ⟨h8, hs⟩ := plain_parts hp
    have key : ∀ l : List Ty, (∀ s ∈ l, saidT m s = [] /\ locT s = []) -> saidL m l = [] /\ locL l = [] := by
      intro l;induction l with
      | nil => intro _; exact ⟨rfl, rfl⟩
      | cons a r ihr =>
        intro h;obtain ⟨h1, h2⟩ := h a List.mem_cons_self;obtain ⟨h3, h4⟩ := ihr fun s hs => h s (List.mem_cons_of_mem _ hs)
        unfold saidL locL
        rw [h1, h2, h3, h4];exact ⟨rfl, rfl⟩
    have hall := key t.subs fun s hm => ih s (by have := manyL_mem _ _ hm; have := manyL_eq t; omega) (hs s hm)
    rw [saidT_sub m t h8, locT_eq, if_neg h8];exact ⟨hall.1, hall.2⟩
theorem ep_zero {m : Mo} {pkg : ByteArray} {major : Int} {env : List If} {t u : Ty} (h : EpIs m pkg major env t 0 u) : MayN m pkg major env /\ mayT t = true /\ mayT u = true /\ plainT u = true := by
  rcases h with ⟨h, -, -⟩ | ⟨h1, h2, h⟩
  · cases h
  · rcases h with ⟨h, -, -⟩ | ⟨hk, h⟩
    · cases h
    · rcases h with ⟨h, -, -⟩ | ⟨hl, hh, x, hx, h⟩
      · cases h
      · rcases h with ⟨h, -, -⟩ | ⟨-, rfl, ha, hb⟩
        · cases h
        · obtain ⟨o1, o2, o3, o4, o5, -⟩ := mayN_parts h1
          refine ⟨h1, h2, ?_, exp_is_plain _ _ _ hx⟩;have h3 := exp_ok o1 o3 o4 o5 hh t u (may_ok h2) hx;unfold mayT
          rw [h3, decide_eq_true ha, decide_eq_true hb]; rfl
theorem ep_code {m : Mo} {pkg : ByteArray} {major : Int} {env : List If} {t u : Ty} {c : Int} (h : EpIs m pkg major env t c u) : (c = 0 \/ c = 1 \/ c = 3 \/ c = 4 \/ c = 9) /\ (c ≠ 0 -> u = zTy) := by
  rcases h with ⟨hc, hu, -⟩ | ⟨-, -, h⟩
  · exact ⟨.inr (.inl hc), fun _ => hu⟩
  · rcases h with ⟨hc, hu, -⟩ | ⟨-, h⟩
    · exact ⟨.inr (.inr (.inr (.inl hc))), fun _ => hu⟩
    · rcases h with ⟨hc, hu, -⟩ | ⟨-, hh, x, hx, h⟩
      · exact ⟨.inr (.inr (.inr (.inr hc))), fun _ => hu⟩
      · rcases h with ⟨hc, hu, -⟩ | ⟨hc, hu, -⟩
        · exact ⟨.inr (.inr (.inl hc)), fun _ => hu⟩
        · exact ⟨.inl hc, fun h => absurd hc h⟩
theorem ep_one {m : Mo} {pkg : ByteArray} {major : Int} {env : List If} {t u u' : Ty} {c c' : Int} (h : EpIs m pkg major env t c u) (h' : EpIs m pkg major env t c' u') : c = c' /\ u = u' := by
  rcases h with ⟨rfl, rfl, h⟩ | ⟨h1, h2, h⟩
  · rcases h' with ⟨rfl, rfl, -⟩ | ⟨h1, h2, -⟩
    · exact ⟨rfl, rfl⟩
    · exact absurd ⟨h1, h2⟩ h
  · rcases h' with ⟨-, -, h'⟩ | ⟨-, -, h'⟩
    · exact absurd ⟨h1, h2⟩ h'
    · rcases h with ⟨rfl, rfl, h⟩ | ⟨hk, h⟩
      · rcases h' with ⟨rfl, rfl, -⟩ | ⟨hk, -⟩
        · exact ⟨rfl, rfl⟩
        · rw [h] at hk; cases hk
      · rcases h' with ⟨-, -, h'⟩ | ⟨-, h'⟩
        · rw [hk] at h'; cases h'
        · rcases h with ⟨rfl, rfl, h⟩ | ⟨hl, h⟩
          · rcases h' with ⟨rfl, rfl, -⟩ | ⟨hl, -⟩
            · exact ⟨rfl, rfl⟩
            · rw [h] at hl; cases hl
          · rcases h' with ⟨-, -, h'⟩ | ⟨-, h'⟩
            · rw [hl] at h'; cases h'
            · obtain ⟨k, x, hx, h⟩ := h
              obtain ⟨k', x', hx', h'⟩ := h';obtain rfl := exp_one _ _ _ _ _ hx hx';rcases h with ⟨rfl, rfl, h⟩ | ⟨rfl, rfl, ha, hb⟩
              · rcases h' with ⟨rfl, rfl, -⟩ | ⟨-, -, ha, hb⟩
                · exact ⟨rfl, rfl⟩
                · omega
              · rcases h' with ⟨-, -, h'⟩ | ⟨rfl, rfl, -⟩
                · omega
                · exact ⟨rfl, rfl⟩
end Go.Proofs.YteecgiebimdbhaaGreatDoor
