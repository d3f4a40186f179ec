/-
  Several texts in one.
-/
import Derived.Test.YtcdmgcgjonndpaaGreatDoorK25
open List (getElem_toArray getElem_cons_succ getElem_cons_zero set_cons_zero set_cons_succ setIfInBounds_toArray)
set_option maxRecDepth 100000
set_option maxHeartbeats 16000000
namespace Go.Proofs.YtcdmgcgjonndpaaGreatDoor
open Go Go.RowKit Go.Shelf
open Go.Sort Go.Maps
open M
theorem dcSize : (Tryz.prog.info? 47).map (·.size) = some 9 := by kernel_rfl
theorem dcOne {s : ByteArray} {k0 k m : Int} {p d n : ByteArray} {A5 A6 : Option Addr} {n5 c5 n6 c6 : Nat} : (#[.int .i64 k0, .string s, .int .i64 k, .string p, .int .i64 m, .string d, .string n, .slice A5 n5 c5, .slice A6 n6 c6] : Array Value).all (·.oneCell') = true := Array.all_eq_true_iff_forall_mem.2 (fun v hv => by simp at hv; rcases hv with rfl | rfl | rfl | rfl | rfl | rfl | rfl | rfl | rfl <;> rfl)
theorem mean_own {m : Mo} {pkg : ByteArray} {major : Int} {env : List If} {t s : Ty} (hz : t.mod.size = 0) (h : meanT m pkg major env t = some s) : ∃ k d, typAt m t.name = some k /\ m.decs[k]? = some d /\ s = if d.kind = 3 then d.typ else openT m pkg major t.name := by
 unfold meanT at h
 rw [if_pos hz] at h
 cases hk : typAt m t.name with
 | none => rw [hk] at h; cases h
 | some k =>
  rw [hk] at h;obtain ⟨d, hd⟩ := dec_at (typAt_lt hk);simp only [] at h;rw [hd] at h;exact ⟨k, d, rfl, hd, by simpa using h.symm⟩
theorem rx_step (w0 : World) (m : Mo) (lm : List Value) (pkg : ByteArray) (major : Int) (Ae : Option Addr) (ce : Nat) (env : List If) (hMo : MoAt w0 lm m) (hND : m.decs.length <= 1000000) (hpk : pkg.size <= 9223372036854775807) (hE : RowIn ifR w0 Ae env) (hel : env.length <= 9223372036854775807) (h9 : ∀ x ∈ env, ∀ y ∈ x.types, many y.typ <= 9000)
  (t u : Ty) (H : (t.kind = 8 /\ ∃ s, meanT m pkg major env t = some s /\ RxCall w0 lm pkg major Ae env.length ce s u /\ (s.kind ≠ 8 -> RxNode w0 lm pkg major Ae env.length ce s u)) \/ RxNode w0 lm pkg major Ae env.length ce t u) : RxCall w0 lm pkg major Ae env.length ce t u := by
 intro most depth l w hm0 hm1 hd0 hd1 hb hT
 have HMo := hZ hMo
 have HEn := hZ hE
 have HH := hZ H
 obtain ⟨Ai, ci, Ad, cd, rfl, zmn, -, -, -, hDe⟩ := hMo
 obtain ⟨nd, hnd⟩ : ∃ nd, nd = m.decs.length := ⟨_, rfl⟩
 have HND := hZ hnd
 have HDe := hZ hDe
 have HT := hZ hT
 obtain ⟨Bn, cB, Bs, dB, rfl, zp, zm, zn, -⟩ := hT.parts
 have HB := hZ hb
 obtain ⟨W2, hW2, B2, O0, O1, hl2⟩ := two_boxes w #[.string m.name, .slice Ai m.imps.length ci, .slice Ad nd cd] #[.int .i64 t.kind, .string t.pkg, .int .i64 t.major, .string t.mod, .string t.name, .slice Bn t.names.length cB, .slice Bs t.subs.length dB] 25 45
 have s2 : W2.heap.size = w.heap.size + 1 + 1 := by rw [hW2]; simp
 obtain ⟨W3, hW3⟩ : ∃ W3, W3 = W2.alloc (.cells #[.int .i64 0, .string ⟨#[]⟩, .int .i64 0, .string ⟨#[]⟩, .string ⟨#[]⟩, .slice none 0 0, .slice none 0 0] 45) := ⟨_, rfl⟩
 have B3 : Below W2.heap.size W2 W3 := by rw [hW3]; exact below_new (Below.refl _ _) _
 have s3 : W3.heap.size = w.heap.size + 1 + 1 + 1 := by rw [hW3]; simp [s2]
 have O2 : W3.heap[w.heap.size + 1 + 1]? = some (.cells #[.int .i64 0, .string ⟨#[]⟩, .int .i64 0, .string ⟨#[]⟩, .string ⟨#[]⟩, .slice none 0 0, .slice none 0 0] 45 (0, 0)) := by rw [hW3, <- s2]; exact heap_alloc_new W2 _
 have HB3 : Hid (Below w.heap.size w W3) := hZ (below_over B2 B3)
 have HM : Hid (∀ wx, Below W3.heap.size W3 wx -> wx.heap[w.heap.size]? = some (.cells #[.string m.name, .slice Ai m.imps.length ci, .slice Ad nd cd] 25 (0, 0))) := hZ (fun wx hb => (hb.block _ (by omega)).trans ((B3.block _ (by omega)).trans O0))
 have HTB : Hid (∀ wx, Below W3.heap.size W3 wx -> wx.heap[w.heap.size + 1]? = some (.cells #[.int .i64 t.kind, .string t.pkg, .int .i64 t.major, .string t.mod, .string t.name, .slice Bn t.names.length cB, .slice Bs t.subs.length dB] 45 (0, 0))) := hZ (fun wx hb => (hb.block _ (by omega)).trans ((B3.block _ (by omega)).trans O1))
 have HR : Hid (∀ wx, Below W3.heap.size W3 wx -> wx.heap[w.heap.size + 1 + 1]? = some (.cells #[.int .i64 0, .string ⟨#[]⟩, .int .i64 0, .string ⟨#[]⟩, .string ⟨#[]⟩, .slice none 0 0, .slice none 0 0] 45 (0, 0))) := hZ (fun wx hb => (hb.block _ (by omega)).trans O2)
 have HMW : Hid (∀ wx, Below w.heap.size w wx -> MoAt wx [.string m.name, .slice Ai m.imps.length ci, .slice Ad nd cd] m) := hZ (fun wx hb => by rw [HND.out]; exact HMo.out.below (below_over HB.out hb))
 have HEW : Hid (∀ wx, Below w.heap.size w wx -> RowIn ifR wx Ae env) := hZ (fun wx hb => HEn.out.below (below_over HB.out hb))
 have HW : Hid (((w.alloc (.cells #[.string m.name, .slice Ai m.imps.length ci, .slice Ad nd cd] 25)).alloc (.cells #[.int .i64 t.kind, .string t.pkg, .int .i64 t.major, .string t.mod, .string t.name, .slice Bn t.names.length cB, .slice Bs t.subs.length dB] 45)).alloc (.cells #[.int .i64 0, .string ⟨#[]⟩, .int .i64 0, .string ⟨#[]⟩, .string ⟨#[]⟩, .slice none 0 0, .slice none 0 0] 45) = W3) := hZ (by rw [hW3, hW2])
 have HIH := hZ (show ∀ v z, RxCall w0 [.string m.name, .slice Ai m.imps.length ci, .slice Ad m.decs.length cd] pkg major Ae env.length ce v z -> RxCall w0 [.string m.name, .slice Ai m.imps.length ci, .slice Ad nd cd] pkg major Ae env.length ce v z from fun v z h => by rw [hnd]; exact h)
 have HS3 := hZ s3
 have HZ := hZ (show t.pkg.size <= 9223372036854775807 /\ t.mod.size <= 9223372036854775807 /\ t.name.size <= 9223372036854775807 /\ m.name.size <= 9223372036854775807 /\ pkg.size <= 9223372036854775807 from ⟨zp, zm, zn, zmn, hpk⟩)
 have HO := hZ (show 0 <= most /\ most <= 500 /\ 0 <= depth /\ depth <= 32 from ⟨hm0, hm1, hd0, hd1⟩)
 have x0 := cZ (HTB.out W3 (Below.refl _ _)) 0
 simp at x0
 obtain ⟨q, hq⟩ : ∃ q, (t.kind == 8) = q := ⟨_, rfl⟩
 have HQ := hZ hq
 rw [<- hnd]
 clear hW2 hW3 B2 B3 O0 O1 O2 s2 s3 hl2 hb hT hDe hE H hnd zp zm zn zmn hpk hm0 hm1 hd0 hd1
 go_enter Tryz.func64, Tryz.ntmps64
 go_upto_region 1 with fail
 rw [HW.out]
 clear HW
 go_upto_if 26 with fail
 clear x0 hq
 go_cut [15] (fun s15 wx => s15 = .int .i64 0 /\ ∃ (tt : Ty) (Cn : Option Addr) (cC : Nat) (Cs : Option Addr) (dC : Nat), RxM w0 [.string m.name, .slice Ai m.imps.length ci, .slice Ad m.decs.length cd] pkg major Ae env.length ce u w tt Cn cC Cs dC wx)
 case first =>
  cases q with
  | false =>
   have M0 : Hid (RxM w0 [.string m.name, .slice Ai m.imps.length ci, .slice Ad m.decs.length cd] pkg major Ae env.length ce u w t Bn cB Bs dB W3) := hZ
    ⟨by rw [<- HND.out]; exact HM.out W3 (Below.refl _ _), HTB.out W3 (Below.refl _ _), HR.out W3 (Below.refl _ _), HB3.out, HT.out.keep HB3.out, by
     rcases HH.out with ⟨h8, -⟩ | h
     ·have := HQ.out; rw [h8] at this; cases this
     ·exact h⟩
   go_wp2_with fail
   go_meet
   exact ⟨rfl, _, _, _, _, _, M0.out⟩
  | true =>
   have HS : Hid (∃ s, meanT m pkg major env t = some s /\ RxCall w0 [.string m.name, .slice Ai m.imps.length ci, .slice Ad nd cd] pkg major Ae env.length ce s u /\ (s.kind ≠ 8 -> RxNode w0 [.string m.name, .slice Ai m.imps.length ci, .slice Ad m.decs.length cd] pkg major Ae env.length ce s u)) := hZ (by
    rcases HH.out with ⟨-, s, h1, h2, h3⟩ | h
    ·exact ⟨s, h1, HIH.out s _ h2, h3⟩
    ·exact absurd (by simpa using HQ.out) h.1)
   have x3 := cZ (HTB.out W3 (Below.refl _ _)) 3;simp at x3;by_cases hz : t.mod.size = 0
   ·obtain ⟨z1, z2⟩ := empty_facts _ hz
    have HKD : Hid (∃ k d, typAt m t.name = some k /\ m.decs[k]? = some d /\ ∃ s, s = (if d.kind = 3 then d.typ else openT m pkg major t.name) /\ RxCall w0 [.string m.name, .slice Ai m.imps.length ci, .slice Ad nd cd] pkg major Ae env.length ce s u /\ (s.kind ≠ 8 -> RxNode w0 [.string m.name, .slice Ai m.imps.length ci, .slice Ad m.decs.length cd] pkg major Ae env.length ce s u)) := hZ (by
     obtain ⟨s, h1, h2, h3⟩ := HS.out;obtain ⟨k, d, hk, hd, e⟩ := mean_own hz h1;exact ⟨k, d, hk, hd, s, e, h2, h3⟩)
    obtain ⟨k, d, hk, hd, s, hsd, hsr, hsn⟩ := HKD.out;obtain ⟨gd, od, v0, v1, v2, v3, v4, v5, v6, rfl, hgd, a0, a1, t0, t1, t2, t3, t4, t5, t6, us, zs⟩ := RowIn.de HDe.out hd;obtain ⟨Dn, cD, Ds, dD, rfl, rfl, rfl, rfl, rfl, rfl, rfl⟩ := us.seven;have hgw : gd < w.heap.size := Nat.lt_of_lt_of_le hgd HB.out.size;have HU := hZ us
    have KEEP : Hid (∀ wx : World, Below W3.heap.size W3 wx -> (wx.cell? ⟨w.heap.size, 0, none⟩ = some (.string m.name) /\ wx.cell? ⟨w.heap.size, 1, none⟩ = some (.slice Ai m.imps.length ci) /\ wx.cell? ⟨w.heap.size, 2, none⟩ = some (.slice (some ⟨gd, od, none⟩) nd cd)) /\ wx.cell? ⟨w.heap.size + 1, 4, none⟩ = some (.string t.name) /\
      wx.cell? ⟨gd, od + k * 9, none⟩ = some (.int .i64 d.kind) /\ wx.cell? ⟨gd, od + k * 9 + 1, none⟩ = some (.string d.name) /\ wx.cell? ⟨gd, od + k * 9 + 2, none⟩ = some (.int .i64 d.typ.kind) /\ wx.cell? ⟨gd, od + k * 9 + 3, none⟩ = some (.string d.typ.pkg) /\ wx.cell? ⟨gd, od + k * 9 + 4, none⟩ = some (.int .i64 d.typ.major) /\ wx.cell? ⟨gd, od + k * 9 + 5, none⟩ = some (.string d.typ.mod) /\ wx.cell? ⟨gd, od + k * 9 + 6, none⟩ = some (.string d.typ.name) /\ wx.cell? ⟨gd, od + k * 9 + 7, none⟩ = some (.slice Dn d.typ.names.length cD) /\ wx.cell? ⟨gd, od + k * 9 + 8, none⟩ = some (.slice Ds d.typ.subs.length dD)) := hZ (fun wx hb => by
     have X0 := HM.out wx hb;have X1 := HTB.out wx hb;have cc := fun (o : Nat) (v : Value) (hv : w0.cell? ⟨gd, o, none⟩ = some v) => ((below_over HB.out (below_over HB3.out hb)).cell (p := ⟨gd, o, none⟩) hgd).trans hv
     exact ⟨⟨cZ X0 0, cZ X0 1, cZ X0 2⟩, cZ X1 4, cc _ _ a0, cc _ _ a1, cc _ _ t0, cc _ _ t1, cc _ _ t2, cc _ _ t3, cc _ _ t4, cc _ _ t5, cc _ _ t6⟩)
    have hfn : fndN m t.name = (k : Int) := by unfold fndN; rw [hk]
    have CF := hZ (fun (wx : World) (hb : Below W3.heap.size W3 wx) => rfind_any m _ t.name wx (HMW.out wx (below_over HB3.out hb)) hND);have hk0 : (0 : Int) <= k := by omega
    have hk1 : (k : Int) < nd := by have := typAt_lt hk; have := HND.out; omega
    have HSD := hZ hsd;have HSR := hZ hsr;have HSN := hZ hsn;have HDD := hZ hd;clear hk hd hsd hsr hsn a0 a1 t0 t1 t2 t3 t4 t5 t6 us zs hz HKD HS HH;go_upto_region 5 with fail
    clear x3 z1 z2;go_cut [18] (fun s18 wx => ∃ b : Nat, s18 = .pointer (some ⟨b, 0, none⟩) /\ wx.heap[b]? = some (.cells #[.int .i64 d.kind, .string d.name, .int .i64 d.typ.kind, .string d.typ.pkg, .int .i64 d.typ.major, .string d.typ.mod, .string d.typ.name, .slice Dn d.typ.names.length cD, .slice Ds d.typ.subs.length dD] 47 (0, 0)) /\ Below W3.heap.size W3 wx)
    case first =>
     have hH0 := KEEP.out W3.drew (Below.drew (Below.refl _ _));refine AnyX.start (fun wx => (wx.cell? ⟨w.heap.size, 0, none⟩ = some (.string m.name) /\ wx.cell? ⟨w.heap.size, 1, none⟩ = some (.slice Ai m.imps.length ci) /\ wx.cell? ⟨w.heap.size, 2, none⟩ = some (.slice (some ⟨gd, od, none⟩) nd cd)) /\ wx.cell? ⟨w.heap.size + 1, 4, none⟩ = some (.string t.name) /\ wx.cell? ⟨gd, od + k * 9, none⟩ = some (.int .i64 d.kind) /\ wx.cell? ⟨gd, od + k * 9 + 1, none⟩ = some (.string d.name) /\ wx.cell? ⟨gd, od + k * 9 + 2, none⟩ = some (.int .i64 d.typ.kind) /\ wx.cell? ⟨gd, od + k * 9 + 3, none⟩ = some (.string d.typ.pkg) /\ wx.cell? ⟨gd, od + k * 9 + 4, none⟩ = some (.int .i64 d.typ.major) /\ wx.cell? ⟨gd, od + k * 9 + 5, none⟩ = some (.string d.typ.mod) /\ wx.cell? ⟨gd, od + k * 9 + 6, none⟩ = some (.string d.typ.name) /\ wx.cell? ⟨gd, od + k * 9 + 7, none⟩ = some (.slice Dn d.typ.names.length cD) /\ wx.cell? ⟨gd, od + k * 9 + 8, none⟩ = some (.slice Ds d.typ.subs.length dD)) (fun _ => false) (by kernel_rfl) ?_;refine AnyX.mv (i := 0) (v := ?_) rfl (fun _ _ _ h => h) (Or.inl ⟨by rfl, ?_⟩) ?_;rotate_left
     ·(intro wS _; go_simp; try with_reducible rfl)
     simp only [getElem_toArray, getElem_cons_succ, getElem_cons_zero];simp only [Act.put, setIfInBounds_toArray];simp only [set_cons_zero, set_cons_succ];refine AnyX.tk (i := 1) (v := ?_) rfl (fun _ _ _ h => h) hH0 (Or.inl ⟨by rfl, ?_⟩) ?_;rotate_left
     ·(intro wS hS; (try obtain ⟨⟨m0, m1, m2⟩, n4, c0, c1, c2, c3, c4, c5, c6, c7, c8⟩ := hS); go_simp; try with_reducible rfl)
     simp only [getElem_toArray, getElem_cons_succ, getElem_cons_zero];simp only [Act.put, setIfInBounds_toArray];simp only [set_cons_zero, set_cons_succ];refine AnyX.tk (i := 2) (v := ?_) rfl (fun _ _ _ h => h) hH0 (Or.inl ⟨by rfl, ?_⟩) ?_;rotate_left
     ·(intro wS hS; (try obtain ⟨⟨m0, m1, m2⟩, n4, c0, c1, c2, c3, c4, c5, c6, c7, c8⟩ := hS); go_simp; try with_reducible rfl)
     simp only [getElem_toArray, getElem_cons_succ, getElem_cons_zero];simp only [Act.put, setIfInBounds_toArray];simp only [set_cons_zero, set_cons_succ];refine AnyX.mv (i := 3) (v := ?_) rfl (fun _ _ _ h => h) (Or.inl ⟨by rfl, ?_⟩) ?_;rotate_left
     ·(intro wS _; go_simp; try with_reducible rfl)
     simp only [getElem_toArray, getElem_cons_succ, getElem_cons_zero];simp only [Act.put, setIfInBounds_toArray];simp only [set_cons_zero, set_cons_succ];refine AnyX.tk (i := 4) (v := ?_) rfl (fun _ _ _ h => h) hH0 (Or.inl ⟨by rfl, ?_⟩) ?_;rotate_left
     ·(intro wS hS; (try obtain ⟨⟨m0, m1, m2⟩, n4, c0, c1, c2, c3, c4, c5, c6, c7, c8⟩ := hS); go_simp; try with_reducible rfl)
     simp only [getElem_toArray, getElem_cons_succ, getElem_cons_zero];simp only [Act.put, setIfInBounds_toArray];simp only [set_cons_zero, set_cons_succ];refine AnyX.go2 5 8 (by kernel_rfl) rfl rfl rfl rfl (fun K hK => ?_) (fun K hK => ?_)
     ·simp only [getElem_toArray, getElem_cons_succ, getElem_cons_zero]
      go_simp
      refine (CF.out W3.drew (Below.drew (Below.refl _ _))).mono ?_;rintro e w2 ⟨rfl, hb2⟩;have hB2 : Below W3.heap.size W3 w2 := Below.trans (Below.drew (Below.refl W3.heap.size W3)) hb2;have hH2 := KEEP.out w2 hB2;rw [hfn];simp only [];refine hK.out _ _ (fun hoff _ => KEEP.out w2 (Below.trans (Below.drew (Below.refl W3.heap.size W3)) hb2)) ?_;clear hK;(try simp only [Act.put, setIfInBounds_toArray]);(try simp only [set_cons_zero, set_cons_succ]);refine AnyX.mv (i := 6) (v := ?_) rfl (fun _ _ _ h => h) (Or.inl ⟨by rfl, ?_⟩) ?_;rotate_left
      ·(intro wS _; go_simp; try with_reducible rfl)
      simp only [getElem_toArray, getElem_cons_succ, getElem_cons_zero];simp only [Act.put, setIfInBounds_toArray];simp only [set_cons_zero, set_cons_succ];refine AnyX.tk (i := 7) (v := ?_) rfl (fun _ _ _ h => h) hH2 (Or.inl ⟨by rfl, ?_⟩) ?_;rotate_left
      ·(intro wS hS; (try obtain ⟨⟨m0, m1, m2⟩, n4, c0, c1, c2, c3, c4, c5, c6, c7, c8⟩ := hS); go_simp; try with_reducible rfl)
      simp only [getElem_toArray, getElem_cons_succ, getElem_cons_zero];simp only [Act.put, setIfInBounds_toArray];simp only [set_cons_zero, set_cons_succ];refine AnyX.go 8 (by kernel_rfl) rfl rfl (fun K hK => ?_);simp only [getElem_toArray, getElem_cons_succ, getElem_cons_zero];go_simp
      refine hK.out _ _ (fun hoff _ => KEEP.out _ (below_new hB2 _)) ?_;clear hK;(try simp only [Act.put, setIfInBounds_toArray]);(try simp only [set_cons_zero, set_cons_succ]);refine AnyX.go 9 (by kernel_rfl) rfl rfl (fun K hK => ?_);simp only [getElem_toArray, getElem_cons_succ, getElem_cons_zero];refine wp_store_row 47 (.tmp 18) (.tmp 54) rfl w2.heap.size #[.int .i64 d.kind, .string d.name, .int .i64 d.typ.kind, .string d.typ.pkg, .int .i64 d.typ.major, .string d.typ.mod, .string d.typ.name, .slice Dn d.typ.names.length cD, .slice Ds d.typ.subs.length dD] rfl rfl _ _ (heap_alloc_new w2 _) dcSize rfl dcOne ?_;refine hK.out _ _ (fun hoff _ => KEEP.out _ (setRow_below (below_new hB2 _) hB2.size _)) ?_;clear hK;(try simp only [Act.put, setIfInBounds_toArray]);(try simp only [set_cons_zero, set_cons_succ]);refine AnyX.done (by kernel_rfl) ?_ _;go_wp2_with fail
      go_meet
      exact ⟨_, rfl, setRow_heap _ _ _ _ _ _ (heap_alloc_new w2 _), setRow_below (below_new hB2 _) hB2.size _⟩
     ·simp only [getElem_toArray, getElem_cons_succ, getElem_cons_zero]
      go_simp
      obtain ⟨wa, hwa⟩ : ∃ wa, wa = (W3.alloc (.cells #[.int .i64 0, .string ⟨#[]⟩, .int .i64 0, .string ⟨#[]⟩, .int .i64 0, .string ⟨#[]⟩, .string ⟨#[]⟩, .slice none 0 0, .slice none 0 0] 47)).drew := ⟨_, rfl⟩;have Ba : Below W3.heap.size W3 wa := by rw [hwa]; exact Below.drew (below_new (Below.refl _ _) _)
      have Xa : wa.heap[W3.heap.size]? = some (.cells #[.int .i64 0, .string ⟨#[]⟩, .int .i64 0, .string ⟨#[]⟩, .int .i64 0, .string ⟨#[]⟩, .string ⟨#[]⟩, .slice none 0 0, .slice none 0 0] 47 (0, 0)) := by rw [hwa]; exact heap_alloc_new W3 _
      have sa : W3.heap.size < wa.heap.size := by rw [hwa]; simp
      have hHa := KEEP.out wa Ba;refine hK.out _ _ (fun _ _ => by rw [hwa] at hHa; exact hHa) ?_;clear hK;(try simp only [Act.put, setIfInBounds_toArray]);(try simp only [set_cons_zero, set_cons_succ]);rw [<- hwa];clear hwa;refine AnyX.go 5 (by kernel_rfl) rfl rfl (fun K hK => ?_);simp only [getElem_toArray, getElem_cons_succ, getElem_cons_zero];go_simp
      refine (CF.out wa Ba).mono ?_;rintro e w2 ⟨rfl, hb2⟩;have hB2 : Below W3.heap.size W3 w2 := below_over Ba hb2;have hH2 := KEEP.out w2 hB2;have X2 := (hb2.block _ sa).trans Xa;rw [hfn];simp only [];refine hK.out _ _ (fun hoff _ => KEEP.out w2 (below_over Ba hb2)) ?_;clear hK;(try simp only [Act.put, setIfInBounds_toArray]);(try simp only [set_cons_zero, set_cons_succ]);refine AnyX.mv (i := 6) (v := ?_) rfl (fun _ _ _ h => h) (Or.inl ⟨by rfl, ?_⟩) ?_;rotate_left
      ·(intro wS _; go_simp; try with_reducible rfl)
      simp only [getElem_toArray, getElem_cons_succ, getElem_cons_zero];simp only [Act.put, setIfInBounds_toArray];simp only [set_cons_zero, set_cons_succ];refine AnyX.tk (i := 7) (v := ?_) rfl (fun _ _ _ h => h) hH2 (Or.inl ⟨by rfl, ?_⟩) ?_;rotate_left
      ·(intro wS hS; (try obtain ⟨⟨m0, m1, m2⟩, n4, c0, c1, c2, c3, c4, c5, c6, c7, c8⟩ := hS); go_simp; try with_reducible rfl)
      simp only [getElem_toArray, getElem_cons_succ, getElem_cons_zero];simp only [Act.put, setIfInBounds_toArray];simp only [set_cons_zero, set_cons_succ];refine AnyX.go 9 (by kernel_rfl) rfl rfl (fun K hK => ?_);simp only [getElem_toArray, getElem_cons_succ, getElem_cons_zero];refine wp_store_row 47 (.tmp 18) (.tmp 54) rfl W3.heap.size #[.int .i64 d.kind, .string d.name, .int .i64 d.typ.kind, .string d.typ.pkg, .int .i64 d.typ.major, .string d.typ.mod, .string d.typ.name, .slice Dn d.typ.names.length cD, .slice Ds d.typ.subs.length dD] rfl rfl _ _ X2 dcSize rfl dcOne ?_;refine hK.out _ _ (fun hoff _ => KEEP.out _ (setRow_below hB2 (Nat.le_refl _) _)) ?_;clear hK;(try simp only [Act.put, setIfInBounds_toArray]);(try simp only [set_cons_zero, set_cons_succ]);refine AnyX.done (by kernel_rfl) ?_ _;go_wp2_with fail
      go_meet
      exact ⟨_, rfl, setRow_heap _ _ _ _ _ _ X2, setRow_below hB2 (Nat.le_refl _) _⟩
    case rest =>
     obtain ⟨b, rfl, hXb, hBb⟩ := hcut;obtain ⟨wy, rfl⟩ : ∃ wy : World, wy = wc := ⟨_, rfl⟩;have HBy := hZ hBb;have HXb := hZ hXb;have X0 := HM.out wy hBb;have X1 := HTB.out wy hBb;have HX1 := hZ X1;obtain ⟨x0, x1, x2⟩ := cq3 X0;have n4 := cZ X1 4;obtain ⟨y0, y1, y2, y3, y4, y5, y6, y7, y8⟩ := cq9 hXb;simp at x0 x1 x2 n4 y0 y1 y2 y3 y4 y5 y6 y7 y8;have HX0 := hZ X0;clear X0 hXb hBb;obtain ⟨hm0, hm1, hd0, hd1⟩ := HO.out;by_cases h3 : d.kind = 3
     ·have q3 : (d.kind == 3) = true := by rw [h3]; rfl
      obtain rfl : s = d.typ := by rw [HSD.out, if_pos h3]
      have CC := hZ (HSR.out most depth _ wy hm0 hm1 hd0 hd1 (below_over HB.out (below_over HB3.out HBy.out)) (HU.out.keep (below_over HB.out (below_over HB3.out HBy.out))));clear h3 X1;go_wp2_with fail
      refine CC.out.mono ?_;clear x0 x1 x2 n4 y0 y1 y2 y3 y4 y5 y6 y7 y8;rintro e w7 ⟨l', n', rfl, hT7⟩;obtain ⟨v, Fn, cF, Fs, dF, rfl⟩ := hT7.2.1;have X7 := HR.out w7 (below_over HBy.out hT7.1);have HX7 := hZ X7;have FIN := hZ (hT7.put (below_over HB3.out HBy.out) (by have := HS3.out; have := HBy.out.size; omega));go_wp2_with (first | ((with_reducible refine wpList_putRow 45 (w.heap.size + 1 + 1) #[.int .i64 v.kind, .string v.pkg, .int .i64 v.major, .string v.mod, .string v.name, .slice Fn v.names.length cF, .slice Fs v.subs.length dF] _ _ X7 ?_ ?_ ?_ ?_ ?_ ?_); exact tySize; rfl; exact tyOne; (focus (first | (go_simp; done) | rfl)); (focus (first | (go_simp; done) | rfl))))
      exact ret_agg (fn := Tryz.f64) (vs := [.int .i64 v.kind, .string v.pkg, .int .i64 v.major, .string v.mod, .string v.name, .slice Fn v.names.length cF, .slice Fs v.subs.length dF]) (b := w.heap.size + 1 + 1) rfl rfl rfl Tryz.underlying45 (by kernel_rfl) (cell7 (setRow_heap _ (w.heap.size + 1 + 1) _ _ _ _ HX7.out)) rfl FIN.out
     ·have q3 : (d.kind == 3) = false := by simpa using h3
      have hso : s = openT m pkg major t.name := by rw [HSD.out, if_neg h3]
      have MM : Hid (RxM w0 [.string m.name, .slice Ai m.imps.length ci, .slice (some ⟨gd, od, none⟩) m.decs.length cd] pkg major Ae env.length ce u w (openT m pkg major t.name) none 0 none 0 (wy.setRow (w.heap.size + 1) #[.int .i64 9, .string pkg, .int .i64 major, .string m.name, .string t.name, .slice none 0 0, .slice none 0 0])) := hZ (by
       obtain ⟨zp, zm, zn, zmn, zpk⟩ := HZ.out;refine ⟨(setRow_other _ _ _ _ (by omega)).trans (by rw [<- HND.out]; exact HX0.out), setRow_heap _ _ _ _ _ _ HX1.out, (setRow_other _ _ _ _ (by omega)).trans (HR.out wy HBy.out), setRow_below (below_over HB3.out HBy.out) (by omega) _, openT_at _ _ zpk zmn zn, ?_⟩;have h := HSN.out;rw [hso] at h;exact h (by show (9 : Int) ≠ 8; decide))
      clear h3 hso;go_wp2_with (first | (((with_reducible refine wpList_putRow 45 (w.heap.size + 1) #[.int .i64 9, .string pkg, .int .i64 major, .string m.name, .string t.name, .slice none 0 0, .slice none 0 0] _ _ X1 ?_ ?_ ?_ ?_ ?_ ?_); exact tySize; rfl; exact tyOne; (focus (first | (go_simp; done) | rfl)); (focus (first | (go_simp; done) | rfl)))))
      go_meet
      exact ⟨rfl, _, _, _, _, _, MM.out⟩
   ·obtain ⟨z1, z2⟩ := full_facts _ hz
    obtain ⟨s, hmn, hsr, -⟩ := HS.out;have HTH : Hid (thereT m env t = some s) := hZ (by unfold meanT at hmn; rw [if_neg hz] at hmn; exact hmn);have HSR := hZ hsr;have X0 := HM.out W3 (Below.refl _ _);have X1 := HTB.out W3 (Below.refl _ _);have CT := hZ (there_any m _ Ae ce env t [.int .i64 t.kind, .string t.pkg, .int .i64 t.major, .string t.mod, .string t.name, .slice Bn t.names.length cB, .slice Bs t.subs.length dB] W3 (HMW.out W3 HB3.out) (HEW.out W3 HB3.out) hel ⟨Bn, cB, Bs, dB, rfl⟩ h9);clear hz hmn hsr HS HH;go_upto_region 3 with fail
    clear x3 z1 z2;obtain ⟨x0, x1, x2⟩ := cq3 X0;obtain ⟨y0, y1, y2, y3, y4, y5, y6⟩ := cq7 X1;simp at x0 x1 x2 y0 y1 y2 y3 y4 y5 y6;clear X0 X1;go_wp2_with fail
    refine CT.out.mono ?_;rintro e w5 ⟨l7, s', b, rfl, hT5, -, hs', hb5⟩;obtain rfl := hs' s HTH.out;obtain ⟨Dn, cD, Ds, dD, rfl, -⟩ := hT5.parts;have X5 : (w5.alloc (.cells #[.int .i64 0, .string ⟨#[]⟩, .int .i64 0, .string ⟨#[]⟩, .string ⟨#[]⟩, .slice none 0 0, .slice none 0 0] 45)).heap[w5.heap.size]? = some (.cells #[.int .i64 0, .string ⟨#[]⟩, .int .i64 0, .string ⟨#[]⟩, .string ⟨#[]⟩, .slice none 0 0, .slice none 0 0] 45 (0, 0)) := heap_alloc_new w5 _;obtain ⟨W6, hW6⟩ : ∃ W6, W6 = (w5.alloc (.cells #[.int .i64 0, .string ⟨#[]⟩, .int .i64 0, .string ⟨#[]⟩, .string ⟨#[]⟩, .slice none 0 0, .slice none 0 0] 45)).setRow w5.heap.size #[.int .i64 s'.kind, .string s'.pkg, .int .i64 s'.major, .string s'.mod, .string s'.name, .slice Dn s'.names.length cD, .slice Ds s'.subs.length dD] := ⟨_, rfl⟩;have B6 : Below w5.heap.size w5 W6 := by rw [hW6]; exact setRow_below (below_new (Below.refl _ _) _) (Nat.le_refl _) _
    have HB6 : Hid (Below W3.heap.size W3 W6) := hZ (below_over hb5 B6);have X6 : W6.heap[w5.heap.size]? = some (.cells #[.int .i64 s'.kind, .string s'.pkg, .int .i64 s'.major, .string s'.mod, .string s'.name, .slice Dn s'.names.length cD, .slice Ds s'.subs.length dD] 45 (0, 0)) := by rw [hW6]; exact setRow_heap _ _ _ _ _ _ X5
    have HT6 := hZ (hT5.keep B6);have HX6 := hZ X6;have HW6 := hZ hW6;clear x0 x1 x2 y0 y1 y2 y3 y4 y5 y6 hT5 hs' hb5 B6 X6 hW6 CT;go_upto_region 4 with (first | (((with_reducible refine wpList_putRow 45 (w5.heap.size) #[.int .i64 s'.kind, .string s'.pkg, .int .i64 s'.major, .string s'.mod, .string s'.name, .slice Dn s'.names.length cD, .slice Ds s'.subs.length dD] _ _ X5 ?_ ?_ ?_ ?_ ?_ ?_); exact tySize; rfl; exact tyOne; (focus (first | (go_simp; done) | rfl)); (focus (first | (go_simp; done) | rfl)))))
    rw [<- HW6.out];clear X5 HW6;have X0 := HM.out W6 HB6.out;have X6 := HX6.out;obtain ⟨x0, x1, x2⟩ := cq3 X0;obtain ⟨y0, y1, y2, y3, y4, y5, y6⟩ := cq7 X6;simp at x0 x1 x2 y0 y1 y2 y3 y4 y5 y6;obtain ⟨hm0, hm1, hd0, hd1⟩ := HO.out;have CC := hZ (HSR.out most depth _ W6 hm0 hm1 hd0 hd1 (below_over HB.out (below_over HB3.out HB6.out)) HT6.out);clear X0 X6;go_wp2_with fail
    refine CC.out.mono ?_;clear x0 x1 x2 y0 y1 y2 y3 y4 y5 y6;rintro e w7 ⟨l', n', rfl, hT7⟩;obtain ⟨v, Fn, cF, Fs, dF, rfl⟩ := hT7.2.1;have X7 := HR.out w7 (below_over HB6.out hT7.1);have HX7 := hZ X7;have FIN := hZ (hT7.put (below_over HB3.out HB6.out) (by have := HS3.out; have := HB6.out.size; omega));go_wp2_with (first | ((with_reducible refine wpList_putRow 45 (w.heap.size + 1 + 1) #[.int .i64 v.kind, .string v.pkg, .int .i64 v.major, .string v.mod, .string v.name, .slice Fn v.names.length cF, .slice Fs v.subs.length dF] _ _ X7 ?_ ?_ ?_ ?_ ?_ ?_); exact tySize; rfl; exact tyOne; (focus (first | (go_simp; done) | rfl)); (focus (first | (go_simp; done) | rfl))))
    exact ret_agg (fn := Tryz.f64) (vs := [.int .i64 v.kind, .string v.pkg, .int .i64 v.major, .string v.mod, .string v.name, .slice Fn v.names.length cF, .slice Fs v.subs.length dF]) (b := w.heap.size + 1 + 1) rfl rfl rfl Tryz.underlying45 (by kernel_rfl) (cell7 (setRow_heap _ (w.heap.size + 1 + 1) _ _ _ _ HX7.out)) rfl FIN.out
 case rest =>
  obtain ⟨rfl, tt, Cn, cC, Cs, dC, M⟩ := hcut;obtain ⟨wb, rfl⟩ : ∃ wb : World, wb = wc := ⟨_, rfl⟩;obtain ⟨hk8, hnl, us, rfl, hlen, hkids⟩ := M.node;obtain ⟨A1, c1, A2, c2, e, zp, zm, za, hzn, hzs, hNA, hSu⟩ := M.ty.parts;simp at e;obtain ⟨⟨rfl, rfl⟩, rfl, rfl⟩ := e;obtain ⟨n, hn⟩ : ∃ n, n = tt.subs.length := ⟨_, rfl⟩;have HN := hZ hn;have HMM := hZ M;have HNA := hZ hNA;have HSU := hZ hSu;have HKI := hZ hkids;have HLEN := hZ hlen;have HZT := hZ (show tt.pkg.size <= 9223372036854775807 /\ tt.mod.size <= 9223372036854775807 /\ tt.name.size <= 9223372036854775807 /\ tt.names.length <= 9223372036854775807 /\ tt.subs.length <= 9223372036854775807 from ⟨zp, zm, za, hzn, hzs⟩)
  have HNS : Hid (∀ (i : Nat) (s : ByteArray), tt.names[i]? = some s -> s.size <= 9223372036854775807) := hZ (fun i s hs => by
   obtain ⟨g, o, -, -, -, h⟩ := hNA i s hs;exact h)
  have MB := hZ M.below;have MR := hZ M.res;have MX : Hid (wb.heap[w.heap.size + 1]? = some (.cells #[.int .i64 tt.kind, .string tt.pkg, .int .i64 tt.major, .string tt.mod, .string tt.name, .slice Cn tt.names.length cC, .slice Cs n dC] 45 (0, 0))) := hZ (by rw [hn]; exact M.box);have MO : Hid (wb.heap[w.heap.size]? = some (.cells #[.string m.name, .slice Ai m.imps.length ci, .slice Ad nd cd] 25 (0, 0))) := hZ (by rw [HND.out]; exact M.mo);have hwb : w.heap.size + 1 + 1 < wb.heap.size := (Array.getElem?_eq_some_iff.1 M.res).1;have hm2 := many_with tt us;have hd2 := deep_with tt us;clear HH HMo HEn HDe HT HB3 HM HTB HR HMW HEW HS3 HZ HQ hND hel h9 hk8 hlen hkids zp zm za hzn hzs hNA hSu hn M;by_cases hq : most < 1 \/ depth < 1
  ·have FIN : Hid (RxOut most depth (Ty.withSubs tt us) w (.returned (.tuple #[.agg #[.int .i64 0, .string ⟨#[]⟩, .int .i64 0, .string ⟨#[]⟩, .string ⟨#[]⟩, .slice none 0 0, .slice none 0 0], .int .i64 0])) (wb.setRow (w.heap.size + 1 + 1) #[.int .i64 0, .string ⟨#[]⟩, .int .i64 0, .string ⟨#[]⟩, .string ⟨#[]⟩, .slice none 0 0, .slice none 0 0])) := hZ (RxT.stop MB.out (by omega))
   have X7 := MR.out;have HX7 := hZ X7;by_cases h5 : most < 1
   ·have h5' : decide (most < 1) = true := decide_eq_true h5
    clear hq hm2 hd2;go_upto_region 10 with fail
    go_wp2_with (first | ((with_reducible refine wpList_putRow 45 (w.heap.size + 1 + 1) #[.int .i64 0, .string ⟨#[]⟩, .int .i64 0, .string ⟨#[]⟩, .string ⟨#[]⟩, .slice none 0 0, .slice none 0 0] _ _ X7 ?_ ?_ ?_ ?_ ?_ ?_); exact tySize; rfl; exact tyOne; (focus (first | (go_simp; done) | rfl)); (focus (first | (go_simp; done) | rfl))))
    exact ret_agg (fn := Tryz.f64) (vs := [.int .i64 0, .string ⟨#[]⟩, .int .i64 0, .string ⟨#[]⟩, .string ⟨#[]⟩, .slice none 0 0, .slice none 0 0]) (b := w.heap.size + 1 + 1) rfl rfl rfl Tryz.underlying45 (by kernel_rfl) (cell7 (setRow_heap _ (w.heap.size + 1 + 1) _ _ _ _ HX7.out)) rfl FIN.out
   ·have h5' : decide (most < 1) = false := decide_eq_false h5
    have h6' : decide (depth < 1) = true := decide_eq_true (hq.resolve_left h5)
    have h6 := hq.resolve_left h5;clear hq hm2 hd2;go_upto_region 10 with fail
    go_wp2_with (first | ((with_reducible refine wpList_putRow 45 (w.heap.size + 1 + 1) #[.int .i64 0, .string ⟨#[]⟩, .int .i64 0, .string ⟨#[]⟩, .string ⟨#[]⟩, .slice none 0 0, .slice none 0 0] _ _ X7 ?_ ?_ ?_ ?_ ?_ ?_); exact tySize; rfl; exact tyOne; (focus (first | (go_simp; done) | rfl)); (focus (first | (go_simp; done) | rfl))))
    exact ret_agg (fn := Tryz.f64) (vs := [.int .i64 0, .string ⟨#[]⟩, .int .i64 0, .string ⟨#[]⟩, .string ⟨#[]⟩, .slice none 0 0, .slice none 0 0]) (b := w.heap.size + 1 + 1) rfl rfl rfl Tryz.underlying45 (by kernel_rfl) (cell7 (setRow_heap _ (w.heap.size + 1 + 1) _ _ _ _ HX7.out)) rfl FIN.out
  ·have h5 : ¬ most < 1 := fun h => hq (.inl h)
   have h6 : ¬ depth < 1 := fun h => hq (.inr h)
   have h5' : decide (most < 1) = false := decide_eq_false h5
   have h6' : decide (depth < 1) = false := decide_eq_false h6
   have HM2 := hZ (And.intro hm2 hd2);have H56 := hZ (And.intro h5 h6);have X1 := MX.out;obtain ⟨y0, y1, y2, y3, y4, y5, y6⟩ := cq7 X1;simp at y0 y1 y2 y3 y4 y5 y6;have X4 : (wb.alloc (.cells #[.int .i64 0, .string ⟨#[]⟩, .int .i64 0, .string ⟨#[]⟩, .string ⟨#[]⟩, .slice none 0 0, .slice none 0 0] 45)).heap[wb.heap.size]? = some (.cells #[.int .i64 0, .string ⟨#[]⟩, .int .i64 0, .string ⟨#[]⟩, .string ⟨#[]⟩, .slice none 0 0, .slice none 0 0] 45 (0, 0)) := heap_alloc_new wb _;obtain ⟨W4, hW4⟩ : ∃ W4, W4 = (wb.alloc (.cells #[.int .i64 0, .string ⟨#[]⟩, .int .i64 0, .string ⟨#[]⟩, .string ⟨#[]⟩, .slice none 0 0, .slice none 0 0] 45)).setRow wb.heap.size #[.int .i64 tt.kind, .string tt.pkg, .int .i64 tt.major, .string tt.mod, .string tt.name, .slice Cn tt.names.length cC, .slice Cs n dC] := ⟨_, rfl⟩;have B4 : Below wb.heap.size wb W4 := by rw [hW4]; exact setRow_below (below_new (Below.refl _ _) _) (Nat.le_refl _) _
   have O4 : W4.heap[wb.heap.size]? = some (.cells #[.int .i64 tt.kind, .string tt.pkg, .int .i64 tt.major, .string tt.mod, .string tt.name, .slice Cn tt.names.length cC, .slice Cs n dC] 45 (0, 0)) := by rw [hW4]; exact setRow_heap _ _ _ _ _ _ X4
   have s4 : W4.heap.size = wb.heap.size + 1 := by rw [hW4, size_setRow]; simp
   have HB4 := hZ B4;have HO4 := hZ O4;have HS4 := hZ s4;have HW4 := hZ hW4;clear hq hm2 hd2 B4 O4 s4 hW4 X1;go_upto_region 12 with (first | (((with_reducible refine wpList_putRow 45 (wb.heap.size) #[.int .i64 tt.kind, .string tt.pkg, .int .i64 tt.major, .string tt.mod, .string tt.name, .slice Cn tt.names.length cC, .slice Cs n dC] _ _ X4 ?_ ?_ ?_ ?_ ?_ ?_); exact tySize; rfl; exact tyOne; (focus (first | (go_simp; done) | rfl)); (focus (first | (go_simp; done) | rfl)))))
   rw [<- HW4.out];clear X4 HW4 y0 y1 y2 y3 y4 y5 y6 h5' h6' h5 h6;have OL : ∀ b, b < W4.heap.size -> (W4.alloc (.cells #[] 9)).heap[b]? = W4.heap[b]? := fun b hb => Lib.alloc_old _ _ _ hb
   have HOL := hZ OL;have OX : (W4.alloc (.cells #[] 9)).heap[wb.heap.size]? = _ := (OL _ (by have := HS4.out; omega)).trans HO4.out;have OY : (W4.alloc (.cells #[] 9)).heap[w.heap.size + 1]? = _ := (OL _ (by have := HS4.out; omega)).trans ((HB4.out.block _ (by omega)).trans MX.out);have x5 := cZ OX 5;have f5 := Lib.frozen_of_heap OX 5;have y5 := cZ OY 5;simp at x5 y5;have HOX := hZ OX;have own0 : (W4.alloc (.cells #[] 9)).ownsRow (wb.heap.size + 1) 9 1 (.slice (some ⟨W4.heap.size, 0, none⟩) 0 0) 0 [] := World.ownsRow_lit (base := wb.heap.size + 1) (e := 9) (size := 1) W4 #[] 0 (by have := HS4.out; omega) (by decide) rfl;obtain ⟨i0, hi, hz0, hz1, hz2⟩ := info_parts str_info;clear OL OX OY;simp only [Act.put];go_cut [15] (fun s15 wx => s15 = .int .i64 0 /\ ∃ (A5 : Option Addr) (c5 : Nat), RxN W4 wb.heap.size tt Cs n dC A5 c5 wx)
   case first =>
    cases Cn with
    | none =>
     have hn0 : tt.names.length = 0 := by
      rcases Nat.eq_zero_or_pos tt.names.length with h | h
      ·exact h
      ·obtain ⟨g, o, e, -⟩ := HNA.out 0 _ (List.getElem?_eq_getElem h)
       cases e
     have NE : Hid (RxN W4 wb.heap.size tt Cs n dC (some ⟨W4.heap.size, 0, none⟩) 0 ((W4.alloc (.cells #[] 9)).setCell ⟨wb.heap.size, 5, none⟩ (.slice (some ⟨W4.heap.size, 0, none⟩) 0 0))) := hZ (by
      have h := RxN.made (wb := wb) (w4 := W4) (w5 := W4.alloc (.cells #[] 9)) (tt := tt) (A5 := some ⟨W4.heap.size, 0, none⟩) (c5 := 0) (fun b hb => HOL.out b (by have := HS4.out; omega)) ⟨rfl, rfl, rfl, by simp⟩ HOX.out (by rw [hn0, List.length_eq_zero_iff.1 hn0]; exact own0);rw [hn0] at h;exact h)
     rw [hn0] at x5 y5;go_wp2_with fail
     go_meet
     exact ⟨rfl, _, _, NE.out⟩
    | some ad =>
     have hnews : ∀ j u, (tt.names.map Value.string)[j]? = some u -> (W4.alloc (.cells #[] 9)).cell? (ad.add j) = some u := by
      intro j u hj;rw [List.getElem?_map] at hj;obtain ⟨s, hs, rfl⟩ := Option.map_eq_some_iff.1 hj;obtain ⟨g, o, e, hg, hc, -⟩ := HNA.out j s hs;obtain rfl := Option.some.inj e;rw [WideShapes.add_plain];exact ((below_new HB4.out (.cells #[] 9)).cell (p := ⟨g, _, none⟩) hg).trans hc
     have hone : ∀ u ∈ tt.names.map Value.string, u.oneCell' = true := by
      intro u hu;obtain ⟨s, -, rfl⟩ := List.mem_map.1 hu;rfl
     have hbase : wb.heap.size + 1 <= (W4.alloc (.cells #[] 9)).heap.size := by have := HS4.out; simp; omega
     go_wp2_with (at_builtin; refine wpList_append_own_at _ rfl _ _ 42 rfl (wb.heap.size + 1) 9 i0 (.string ⟨#[]⟩) 1 16 Tryz.underlying42 hi hz0 hz1 hz2 rfl (by decide) _ 0 [] rfl own0 ad tt.names.length cC (tt.names.map Value.string) rfl ?c0 hnews hone ?c3 ?c4 hbase ?_)
     case c3 => unfold maxLen; omega
     case c4 => omega
     intro v5 w5 hown hgrow _ hat;have hown2 : w5.ownsRow (wb.heap.size + 1) 9 1 v5 tt.names.length (tt.names.map Value.string) := by first | exact hown | simpa using hown
     clear hown;obtain ⟨-, A5, c5, rfl, -⟩ := own_names hown2 HNS.out;have hs4 := HS4.out;have b5 : w5.heap[wb.heap.size]? = _ := (hgrow.block wb.heap.size (by simp; omega) (by simp [Value.ownBlock]; omega)).trans HOX.out;have NE := hZ (RxN.made (wb := wb) (w4 := W4) (fun b hb => (hgrow.block b (by simp; omega) (by simp [Value.ownBlock]; omega)).trans (HOL.out b (by omega))) ⟨hgrow.os, hgrow.tape, hgrow.output, by have := hgrow.size; simp at this; omega⟩ b5 hown2);have z5 := cZ b5 5;have g5 := Lib.frozen_of_heap b5 5;simp at z5;clear x5 f5 y5 hgrow hown2 hat b5 hnews hbase own0 hs4;go_wp2_with fail
     go_meet
     exact ⟨rfl, _, _, NE.out⟩
   case rest =>
    obtain ⟨rfl, A5, c5, hN⟩ := hcut;obtain ⟨wn, rfl⟩ : ∃ wn : World, wn = wc := ⟨_, rfl⟩;have x6 := cZ hN.box 6;have f6 := Lib.frozen_of_heap hN.box 6;simp at x6;obtain ⟨l2, START⟩ := hN.start' HB4.out HNS.out;clear hN HB4 HO4 HS4 HOL HOX own0 x5 f5 y5;go_wp2_with fail
    clear x6 f6;go_loopw [20, 21] (fun s20 s21 wr => ∃ (xs : List Ty) (A6 : Option Addr) (c6 : Nat) (nn : Int), xs.length <= n /\ s20 = .int .i64 nn /\ s21 = .int .i64 xs.length /\ Hid (xs = us.take xs.length) /\ Hid (nn = ((1 + manyL xs : Nat) : Int) /\ nn <= most /\ ((1 + deepL xs : Nat) : Int) <= depth) /\ Hid (RxI wb l2 tt A5 c5 xs A6 c6 wr)) (fun s20 s21 _ => n - (intOf s21).toNat)
    case atStart => exact ⟨[], none, 0, 1, by simp, rfl, rfl, hZ rfl, hZ (by have := H56.out; simp [manyL, deepL]; omega), START⟩
    case round =>
     obtain ⟨xs, A6, c6, nn, hxn, rfl, rfl, HXS, HNN, HI⟩ := hrel;obtain ⟨wo, rfl⟩ : ∃ wo : World, wo = wr := ⟨_, rfl⟩;have hwo : wb.heap.size < wo.heap.size := (Array.getElem?_eq_some_iff.1 HI.out.box).1;have XT : wo.heap[w.heap.size + 1]? = _ := (HI.out.below.block _ (by omega)).trans MX.out;have XM : wo.heap[w.heap.size]? = _ := (HI.out.below.block _ (by omega)).trans MO.out;have b6 := cZ XT 6;simp at b6;by_cases hlt : xs.length < n
     ·obtain ⟨s, hs⟩ : ∃ s, tt.subs[xs.length]? = some s := ⟨_, List.getElem?_eq_getElem (by rw [<- HN.out]; exact hlt)⟩
      obtain ⟨v, hv⟩ : ∃ v, us[xs.length]? = some v := ⟨_, List.getElem?_eq_getElem (by rw [HLEN.out, <- HN.out]; exact hlt)⟩;obtain ⟨g0, o0, v0, v1, v2, v3, v4, v5, v6, rfl, hg0, h0, h1, h2, h3, h4, h5, h6, hs7⟩ := HSU.out.below HI.out.below xs.length s hs;obtain ⟨Dn, cD, Ds, dD, rfl, rfl, rfl, rfl, rfl, rfl, rfl⟩ := hs7.seven
      have KEEP : Hid (∀ wx : World, Below wo.heap.size wo wx -> ((wx.cell? ⟨w.heap.size, 0, none⟩ = some (.string m.name) /\ wx.cell? ⟨w.heap.size, 1, none⟩ = some (.slice Ai m.imps.length ci) /\ wx.cell? ⟨w.heap.size, 2, none⟩ = some (.slice Ad nd cd)) /\ wx.cell? ⟨w.heap.size + 1, 6, none⟩ = some (.slice (some ⟨g0, o0, none⟩) n dC) /\ wx.cell? ⟨g0, o0 + xs.length * 7, none⟩ = some (.int .i64 s.kind) /\ wx.cell? ⟨g0, o0 + xs.length * 7 + 1, none⟩ = some (.string s.pkg) /\ wx.cell? ⟨g0, o0 + xs.length * 7 + 2, none⟩ = some (.int .i64 s.major) /\ wx.cell? ⟨g0, o0 + xs.length * 7 + 3, none⟩ = some (.string s.mod) /\ wx.cell? ⟨g0, o0 + xs.length * 7 + 4, none⟩ = some (.string s.name) /\ wx.cell? ⟨g0, o0 + xs.length * 7 + 5, none⟩ = some (.slice Dn s.names.length cD) /\ wx.cell? ⟨g0, o0 + xs.length * 7 + 6, none⟩ = some (.slice Ds s.subs.length dD))) := hZ (fun wx hb => by
       have X0 := (hb.block _ (by omega)).trans XM;have X1 := (hb.block _ (by omega)).trans XT;have cc := fun (o : Nat) (x : Value) (hx : wo.cell? ⟨g0, o, none⟩ = some x) => (hb.cell (p := ⟨g0, o, none⟩) hg0).trans hx
       exact ⟨⟨cZ X0 0, cZ X0 1, cZ X0 2⟩, cZ X1 6, cc _ _ h0, cc _ _ h1, cc _ _ h2, cc _ _ h3, cc _ _ h4, cc _ _ h5, cc _ _ h6⟩)
      obtain ⟨hm0, hm1, hd0, hd1⟩ := HO.out;have hpos : 1 <= nn := by have := HNN.out.1; omega
      have hle := HNN.out.2.1;have h56 := H56.out;have wr1 : IntKind.i64.wrap (most - nn) = most - nn := by rw [IntKind.wrap_i64]; omega
      have wr2 : IntKind.i64.wrap (depth - 1) = depth - 1 := by rw [IntKind.wrap_i64]; omega
      have CT := hZ (fun (w' : World) (hb' : Below wo.heap.size wo w') => HIH.out _ _ (HKI.out xs.length s v hs hv) (most - nn) (depth - 1) [.int .i64 s.kind, .string s.pkg, .int .i64 s.major, .string s.mod, .string s.name, .slice Dn s.names.length cD, .slice Ds s.subs.length dD] w' (by omega) (by omega) (by omega) (by omega) (below_over HB.out (below_over MB.out (below_over HI.out.below hb'))) (hs7.keep hb'));have HV := hZ hv;have hj0 : (0 : Int) <= xs.length := by omega
      have hj1 : (xs.length : Int) < n := by omega
      have HXO := hZ (And.intro XT XM);clear hs hv hs7 h0 h1 h2 h3 h4 h5 h6 XT XM;go_upto_region 18 with fail
      clear b6;go_cut [22, 23] (fun s22 s23 wx => ∃ (b : Nat) (l1 : List Value) (k1 : Int), s22 = .pointer (some ⟨b, 0, none⟩) /\ s23 = .int .i64 k1 /\ RxR wo (most - nn) (depth - 1) v b l1 k1 wx)
      case first =>
       have hH0 := KEEP.out wo.drew (Below.drew (Below.refl _ _));refine AnyX.start (fun wx => (wx.cell? ⟨w.heap.size, 0, none⟩ = some (.string m.name) /\ wx.cell? ⟨w.heap.size, 1, none⟩ = some (.slice Ai m.imps.length ci) /\ wx.cell? ⟨w.heap.size, 2, none⟩ = some (.slice Ad nd cd)) /\ wx.cell? ⟨w.heap.size + 1, 6, none⟩ = some (.slice (some ⟨g0, o0, none⟩) n dC) /\ wx.cell? ⟨g0, o0 + xs.length * 7, none⟩ = some (.int .i64 s.kind) /\ wx.cell? ⟨g0, o0 + xs.length * 7 + 1, none⟩ = some (.string s.pkg) /\ wx.cell? ⟨g0, o0 + xs.length * 7 + 2, none⟩ = some (.int .i64 s.major) /\ wx.cell? ⟨g0, o0 + xs.length * 7 + 3, none⟩ = some (.string s.mod) /\ wx.cell? ⟨g0, o0 + xs.length * 7 + 4, none⟩ = some (.string s.name) /\ wx.cell? ⟨g0, o0 + xs.length * 7 + 5, none⟩ = some (.slice Dn s.names.length cD) /\ wx.cell? ⟨g0, o0 + xs.length * 7 + 6, none⟩ = some (.slice Ds s.subs.length dD)) (fun _ => false) (by kernel_rfl) ?_;refine AnyX.tk (i := 0) (v := ?_) rfl (fun _ _ _ h => h) hH0 (Or.inl ⟨by rfl, ?_⟩) ?_;rotate_left
       ·(intro wS hS; (try obtain ⟨⟨m0, m1, m2⟩, b6, c0, c1, c2, c3, c4, c5, c6⟩ := hS); go_simp; try with_reducible rfl)
       simp only [getElem_toArray, getElem_cons_succ, getElem_cons_zero];simp only [Act.put, setIfInBounds_toArray];simp only [set_cons_zero, set_cons_succ];refine AnyX.mv (i := 1) (v := ?_) rfl (fun _ _ _ h => h) (Or.inl ⟨by rfl, ?_⟩) ?_;rotate_left
       ·(intro wS _; go_simp; try with_reducible rfl)
       simp only [getElem_toArray, getElem_cons_succ, getElem_cons_zero];simp only [Act.put, setIfInBounds_toArray];simp only [set_cons_zero, set_cons_succ];refine AnyX.mv (i := 2) (v := ?_) rfl (fun _ _ _ h => h) (Or.inl ⟨by rfl, ?_⟩) ?_;rotate_left
       ·(intro wS _; go_simp; try with_reducible rfl)
       simp only [getElem_toArray, getElem_cons_succ, getElem_cons_zero];simp only [Act.put, setIfInBounds_toArray];simp only [set_cons_zero, set_cons_succ];refine AnyX.mv (i := 3) (v := ?_) rfl (fun _ _ _ h => h) (Or.inl ⟨by rfl, ?_⟩) ?_;rotate_left
       ·(intro wS _; go_simp; try with_reducible rfl)
       simp only [getElem_toArray, getElem_cons_succ, getElem_cons_zero];simp only [Act.put, setIfInBounds_toArray];simp only [set_cons_zero, set_cons_succ];refine AnyX.mv (i := 4) (v := ?_) rfl (fun _ _ _ h => h) (Or.inl ⟨by rfl, ?_⟩) ?_;rotate_left
       ·(intro wS _; go_simp; try with_reducible rfl)
       simp only [getElem_toArray, getElem_cons_succ, getElem_cons_zero];simp only [Act.put, setIfInBounds_toArray];simp only [set_cons_zero, set_cons_succ];refine AnyX.tk (i := 5) (v := ?_) rfl (fun _ _ _ h => h) hH0 (Or.inl ⟨by rfl, ?_⟩) ?_;rotate_left
       ·(intro wS hS; (try obtain ⟨⟨m0, m1, m2⟩, b6, c0, c1, c2, c3, c4, c5, c6⟩ := hS); go_simp; try with_reducible rfl)
       simp only [getElem_toArray, getElem_cons_succ, getElem_cons_zero];simp only [Act.put, setIfInBounds_toArray];simp only [set_cons_zero, set_cons_succ];refine AnyX.mv (i := 6) (v := ?_) rfl (fun _ _ _ h => h) (Or.inl ⟨by rfl, ?_⟩) ?_;rotate_left
       ·(intro wS _; go_simp; try with_reducible rfl)
       simp only [getElem_toArray, getElem_cons_succ, getElem_cons_zero];simp only [Act.put, setIfInBounds_toArray];simp only [set_cons_zero, set_cons_succ];refine AnyX.mv (i := 7) (v := ?_) rfl (fun _ _ _ h => h) (Or.inl ⟨by rfl, ?_⟩) ?_;rotate_left
       ·(intro wS _; go_simp; try with_reducible rfl)
       simp only [getElem_toArray, getElem_cons_succ, getElem_cons_zero];simp only [Act.put, setIfInBounds_toArray];simp only [set_cons_zero, set_cons_succ];refine AnyX.tk (i := 8) (v := ?_) rfl (fun _ _ _ h => h) hH0 (Or.inl ⟨by rfl, ?_⟩) ?_;rotate_left
       ·(intro wS hS; (try obtain ⟨⟨m0, m1, m2⟩, b6, c0, c1, c2, c3, c4, c5, c6⟩ := hS); go_simp; try with_reducible rfl)
       simp only [getElem_toArray, getElem_cons_succ, getElem_cons_zero];simp only [Act.put, setIfInBounds_toArray];simp only [set_cons_zero, set_cons_succ];refine AnyX.mv (i := 9) (v := ?_) rfl (fun _ _ _ h => h) (Or.inl ⟨by rfl, ?_⟩) ?_;rotate_left
       ·(intro wS _; go_simp; try with_reducible rfl)
       simp only [getElem_toArray, getElem_cons_succ, getElem_cons_zero];simp only [Act.put, setIfInBounds_toArray];simp only [set_cons_zero, set_cons_succ];refine AnyX.mv (i := 10) (v := ?_) rfl (fun _ _ _ h => h) (Or.inl ⟨by rfl, ?_⟩) ?_;rotate_left
       ·(intro wS _; go_simp; try with_reducible rfl)
       simp only [getElem_toArray, getElem_cons_succ, getElem_cons_zero];simp only [Act.put, setIfInBounds_toArray];simp only [set_cons_zero, set_cons_succ];refine AnyX.mv (i := 11) (v := ?_) rfl (fun _ _ _ h => h) (Or.inl ⟨by rfl, ?_⟩) ?_;rotate_left
       ·(intro wS _; go_simp; try with_reducible rfl)
       simp only [getElem_toArray, getElem_cons_succ, getElem_cons_zero];simp only [Act.put, setIfInBounds_toArray];simp only [set_cons_zero, set_cons_succ];refine AnyX.mv (i := 12) (v := ?_) rfl (fun _ _ _ h => h) (Or.inl ⟨by rfl, ?_⟩) ?_;rotate_left
       ·(intro wS _; go_simp; try with_reducible rfl)
       simp only [getElem_toArray, getElem_cons_succ, getElem_cons_zero];simp only [Act.put, setIfInBounds_toArray];simp only [set_cons_zero, set_cons_succ];refine AnyX.mv (i := 13) (v := ?_) rfl (fun _ _ _ h => h) (Or.inl ⟨by rfl, ?_⟩) ?_;rotate_left
       ·(intro wS _; go_simp; try with_reducible rfl)
       simp only [getElem_toArray, getElem_cons_succ, getElem_cons_zero];simp only [Act.put, setIfInBounds_toArray];simp only [set_cons_zero, set_cons_succ];refine AnyX.go2 14 18 (by kernel_rfl) rfl rfl rfl rfl (fun K hK => ?_) (fun K hK => ?_)
       ·simp only [getElem_toArray, getElem_cons_succ, getElem_cons_zero]
        go_simp
        refine (CT.out wo.drew (Below.drew (Below.refl _ _))).mono ?_;rintro e w2 ⟨l1, k1, rfl, hT2⟩;have hB2 : Below wo.heap.size wo w2 := Below.trans (Below.drew (Below.refl wo.heap.size wo)) hT2.1;obtain ⟨x, Fn, cF, Fs, dF, rfl⟩ := hT2.2.1;simp only [];refine hK.out _ _ (fun hoff _ => KEEP.out w2 (Below.trans (Below.drew (Below.refl wo.heap.size wo)) hT2.1)) ?_;clear hK;(try simp only [Act.put, setIfInBounds_toArray]);(try simp only [set_cons_zero, set_cons_succ]);refine AnyX.mv (i := 15) (v := ?_) rfl (fun _ _ _ h => h) (Or.inl ⟨by rfl, ?_⟩) ?_;rotate_left
        ·(intro wS _; go_simp; try with_reducible rfl)
        simp only [getElem_toArray, getElem_cons_succ, getElem_cons_zero];simp only [Act.put, setIfInBounds_toArray];simp only [set_cons_zero, set_cons_succ];refine AnyX.mv (i := 16) (v := ?_) rfl (fun _ _ _ h => h) (Or.inl ⟨by rfl, ?_⟩) ?_;rotate_left
        ·(intro wS _; go_simp; try with_reducible rfl)
        simp only [getElem_toArray, getElem_cons_succ, getElem_cons_zero];simp only [Act.put, setIfInBounds_toArray];simp only [set_cons_zero, set_cons_succ];refine AnyX.mv (i := 17) (v := ?_) rfl (fun _ _ _ h => h) (Or.inl ⟨by rfl, ?_⟩) ?_;rotate_left
        ·(intro wS _; go_simp; try with_reducible rfl)
        simp only [getElem_toArray, getElem_cons_succ, getElem_cons_zero];simp only [Act.put, setIfInBounds_toArray];simp only [set_cons_zero, set_cons_succ];refine AnyX.go 18 (by kernel_rfl) rfl rfl (fun K hK => ?_);simp only [getElem_toArray, getElem_cons_succ, getElem_cons_zero];go_simp
        refine hK.out _ _ (fun hoff _ => KEEP.out _ (below_new hB2 _)) ?_;clear hK;(try simp only [Act.put, setIfInBounds_toArray]);(try simp only [set_cons_zero, set_cons_succ]);refine AnyX.go 19 (by kernel_rfl) rfl rfl (fun K hK => ?_);simp only [getElem_toArray, getElem_cons_succ, getElem_cons_zero];refine wp_store_row 45 (.tmp 22) (.tmp 113) rfl w2.heap.size #[.int .i64 x.kind, .string x.pkg, .int .i64 x.major, .string x.mod, .string x.name, .slice Fn x.names.length cF, .slice Fs x.subs.length dF] rfl rfl _ _ (heap_alloc_new w2 _) tySize rfl tyOne ?_;refine hK.out _ _ (fun hoff _ => KEEP.out _ (setRow_below (below_new hB2 _) hB2.size _)) ?_;clear hK;(try simp only [Act.put, setIfInBounds_toArray]);(try simp only [set_cons_zero, set_cons_succ]);refine AnyX.mv (i := 20) (v := ?_) rfl (fun _ _ _ h => h) (Or.inl ⟨by rfl, ?_⟩) ?_;rotate_left
        ·(intro wS _; go_simp; try with_reducible rfl)
        simp only [getElem_toArray, getElem_cons_succ, getElem_cons_zero];simp only [Act.put, setIfInBounds_toArray];simp only [set_cons_zero, set_cons_succ];refine AnyX.done (by kernel_rfl) ?_ _;go_wp2_with fail
        go_meet
        exact ⟨_, _, _, rfl, rfl, RxR.made hT2 (Nat.le_refl _) hB2.size (.inr (Nat.le_refl _)) (setRow_heap _ _ _ _ _ _ (heap_alloc_new w2 _)) (setRow_below (below_new hB2 _) hB2.size _) (fun y hy hne => (setRow_other _ _ _ _ hne).trans (Lib.alloc_old _ _ _ hy)) (by rw [size_setRow]; simp)⟩
       ·simp only [getElem_toArray, getElem_cons_succ, getElem_cons_zero]
        go_simp
        obtain ⟨wa, hwa⟩ : ∃ wa, wa = (wo.alloc (.cells #[.int .i64 0, .string ⟨#[]⟩, .int .i64 0, .string ⟨#[]⟩, .string ⟨#[]⟩, .slice none 0 0, .slice none 0 0] 45)).drew := ⟨_, rfl⟩;have Ba : Below wo.heap.size wo wa := by rw [hwa]; exact Below.drew (below_new (Below.refl _ _) _)
        have Xa : wa.heap[wo.heap.size]? = some (.cells #[.int .i64 0, .string ⟨#[]⟩, .int .i64 0, .string ⟨#[]⟩, .string ⟨#[]⟩, .slice none 0 0, .slice none 0 0] 45 (0, 0)) := by rw [hwa]; exact heap_alloc_new wo _
        have sa : wo.heap.size < wa.heap.size := by rw [hwa]; simp
        have hHa := KEEP.out wa Ba;refine hK.out _ _ (fun _ _ => by rw [hwa] at hHa; exact hHa) ?_;clear hK;(try simp only [Act.put, setIfInBounds_toArray]);(try simp only [set_cons_zero, set_cons_succ]);rw [<- hwa];clear hwa;refine AnyX.go 14 (by kernel_rfl) rfl rfl (fun K hK => ?_);simp only [getElem_toArray, getElem_cons_succ, getElem_cons_zero];go_simp
        refine (CT.out wa Ba).mono ?_;rintro e w2 ⟨l1, k1, rfl, hT2⟩;have hB2 : Below wo.heap.size wo w2 := below_over Ba hT2.1;obtain ⟨x, Fn, cF, Fs, dF, rfl⟩ := hT2.2.1;have X2 := (hT2.1.block _ sa).trans Xa;simp only [];refine hK.out _ _ (fun hoff _ => KEEP.out w2 (below_over Ba hT2.1)) ?_;clear hK;(try simp only [Act.put, setIfInBounds_toArray]);(try simp only [set_cons_zero, set_cons_succ]);refine AnyX.mv (i := 15) (v := ?_) rfl (fun _ _ _ h => h) (Or.inl ⟨by rfl, ?_⟩) ?_;rotate_left
        ·(intro wS _; go_simp; try with_reducible rfl)
        simp only [getElem_toArray, getElem_cons_succ, getElem_cons_zero];simp only [Act.put, setIfInBounds_toArray];simp only [set_cons_zero, set_cons_succ];refine AnyX.mv (i := 16) (v := ?_) rfl (fun _ _ _ h => h) (Or.inl ⟨by rfl, ?_⟩) ?_;rotate_left
        ·(intro wS _; go_simp; try with_reducible rfl)
        simp only [getElem_toArray, getElem_cons_succ, getElem_cons_zero];simp only [Act.put, setIfInBounds_toArray];simp only [set_cons_zero, set_cons_succ];refine AnyX.mv (i := 17) (v := ?_) rfl (fun _ _ _ h => h) (Or.inl ⟨by rfl, ?_⟩) ?_;rotate_left
        ·(intro wS _; go_simp; try with_reducible rfl)
        simp only [getElem_toArray, getElem_cons_succ, getElem_cons_zero];simp only [Act.put, setIfInBounds_toArray];simp only [set_cons_zero, set_cons_succ];refine AnyX.go 19 (by kernel_rfl) rfl rfl (fun K hK => ?_);simp only [getElem_toArray, getElem_cons_succ, getElem_cons_zero];refine wp_store_row 45 (.tmp 22) (.tmp 113) rfl wo.heap.size #[.int .i64 x.kind, .string x.pkg, .int .i64 x.major, .string x.mod, .string x.name, .slice Fn x.names.length cF, .slice Fs x.subs.length dF] rfl rfl _ _ X2 tySize rfl tyOne ?_;refine hK.out _ _ (fun hoff _ => KEEP.out _ (setRow_below hB2 (Nat.le_refl _) _)) ?_;clear hK;(try simp only [Act.put, setIfInBounds_toArray]);(try simp only [set_cons_zero, set_cons_succ]);refine AnyX.mv (i := 20) (v := ?_) rfl (fun _ _ _ h => h) (Or.inl ⟨by rfl, ?_⟩) ?_;rotate_left
        ·(intro wS _; go_simp; try with_reducible rfl)
        simp only [getElem_toArray, getElem_cons_succ, getElem_cons_zero];simp only [Act.put, setIfInBounds_toArray];simp only [set_cons_zero, set_cons_succ];refine AnyX.done (by kernel_rfl) ?_ _;go_wp2_with fail
        go_meet
        exact ⟨_, _, _, rfl, rfl, RxR.made hT2 Ba.size (Nat.le_refl _) (.inl sa) (setRow_heap _ _ _ _ _ _ X2) (setRow_below hB2 (Nat.le_refl _) _) (fun y hy hne => setRow_other _ _ _ _ hne) (by rw [size_setRow]; exact Nat.le_refl _)⟩
      case rest =>
       obtain ⟨b, l1, k1, rfl, rfl, hXb, hbb, hBx, ⟨x, Fn, cF, Fs, dF, rfl⟩, hfit⟩ := hcut;obtain ⟨wy, rfl⟩ : ∃ wy : World, wy = wc := ⟨_, rfl⟩;have HBy := hZ hBx;have HI2 := hZ (HI.out.keep hBx);have hm2 := manyL_take us _ v HV.out;have hd2 := deepL_take us _ v HV.out;have hXS := HXS.out;have hmt := manyL_mem us v (List.mem_of_getElem? HV.out);have hNN := HNN.out;have hM2 := HM2.out;have hmle := manyL_take_le us (xs.length + 1);have hdle := deepL_le (List.mem_of_getElem? HV.out);rw [<- hXS] at hm2 hd2;clear CT KEEP wr1 wr2;rcases hfit with ⟨hf1, hf2, rfl, hTv⟩ | ⟨hf, rfl⟩
       ·have hpv := many_pos v
        have qk : ((many v : Int) == 0) = false := by simp; omega
        obtain ⟨kv, hkv⟩ : ∃ kv : Int, kv = (many v : Int) := ⟨_, rfl⟩
        have NEW : Hid (nn + kv = ((1 + manyL (xs ++ [v]) : Nat) : Int) /\ nn + kv <= most /\ ((1 + deepL (xs ++ [v]) : Nat) : Int) <= depth) := hZ (by
         have e : us.take (xs.length + 1) = xs ++ [v] := by rw [List.take_add_one, HV.out, <- hXS]; rfl
         rw [e] at hm2 hd2;rw [hm2, hd2, hkv];omega)
        have XSN : Hid (xs ++ [v] = us.take (xs ++ [v]).length) := hZ (by
         have hl9 : (xs ++ [v]).length = xs.length + 1 := by simp
         rw [hl9, List.take_add_one, HV.out, <- hXS]; rfl)
        rw [<- hkv] at qk ⊢;have wrk : IntKind.i64.wrap (nn + kv) = nn + kv := by have := NEW.out.2.1; rw [IntKind.wrap_i64]; omega
        have HTV := hZ hTv;have y6 := cZ HI2.out.box 6;obtain ⟨z0, z1, z2, z3, z4, z5, z6⟩ := cq7 hXb;simp at y6 z0 z1 z2 z3 z4 z5 z6;obtain ⟨C, hC1, hown, hC4⟩ := HI2.out.rows.cells;have hown : wy.ownsRow l2 45 7 (.slice A6 xs.length c6) xs.length C.flatten := hown;obtain ⟨inf, hi1', hy0, hy1, hy2⟩ := info_parts typ_info
        have hxl : xs.length <= 500 := by
         have : ∀ l : List Ty, l.length <= manyL l := manyL_len
         have := this xs
         omega
        have hMX : xs.length + 1 <= maxLen := by unfold maxLen; omega
        have hwo2 : ∀ c, (Value.slice A6 xs.length c6).ownBlock = some c -> c < wo.heap.size := fun c e => (HI.out.rows.lt e).2
        have hlo := HI2.out.lo;have hlo2 := HI.out.lole;have hys := HBy.out.size;have hAL : ∀ oo, l2 <= (wy.alloc oo).heap.size := fun oo => by have e1 : (wy.alloc oo).heap.size = wy.heap.size + 1 := (by simp); omega
        clear hm2 hd2 hXS hmt hNN hM2 hmle hdle hpv hkv hf1 hf2 hXb hTv hBx;go_wp2_with (first | (refine wpList_append_lies _ rfl (.tmp 119) (.tmp 121) 43 rfl l2 45 inf _ 7 112 Tryz.underlying43 hi1' hy0 hy1 hy2 (by rfl) (Nat.zero_lt_succ 6) (.slice A6 xs.length c6) xs.length _ rfl (hown.alloc _) ⟨wy.heap.size, 0, none⟩ 1 1 [.int .i64 x.kind, .string x.pkg, .int .i64 x.major, .string x.mod, .string x.name, .slice Fn x.names.length cF, .slice Fs x.subs.length dF] rfl rfl (fun q u hq => by rw [WideShapes.add_plain, Nat.zero_add, cZ (heap_alloc_new wy _), <- hq, <- List.getElem?_toArray]) (fun u hu => by simp at hu; rcases hu with rfl | rfl | rfl | rfl | rfl | rfl | rfl <;> rfl) Nat.one_pos hMX (by omega) (hAL _) _ rfl ?_; intro gb cap w5 hown5 hgrow hat hlt5; obtain ⟨ROW9, Y9, old9, bel9, z9, e9, hs9⟩ := row_more (R := tR) (x := v) (k := 6) HI2.out.rows (B := wo.heap.size) (by omega) hys hwo2 hC1 hC4 HTV.out hown5 hgrow hat (by omega) HI2.out.box rfl; clear hown5 hgrow hat hlt5))
        have hl9 : (xs ++ [v]).length = xs.length + 1 := by simp
        have INV : Hid (RxI wb l2 tt A5 c5 (xs ++ [v]) (some ⟨gb, 0, none⟩) cap (w5.setCell ⟨wb.heap.size, 6, none⟩ (.slice (some ⟨gb, 0, none⟩) (xs.length + 1) cap))) := hZ
         ⟨HI2.out.below.trans (bel9 _ (Nat.le_refl _)), by rw [hl9]; exact Y9, HI2.out.names.move hs9 (fun b hb hS => ⟨hS, old9 b (by omega) (by omega)⟩), ROW9, hlo, by have := HI2.out.lole; omega⟩
        clear ROW9 Y9 old9 bel9 hs9 hC1 hown hC4 hi1' hy0 hy1 hy2 hMX hwo2 hAL;go_wp2_with fail
        go_roundw
        case rel => exact ⟨xs ++ [v], some ⟨gb, 0, none⟩, cap, nn + kv, by omega, rfl, by rw [hl9]; go_num, XSN, NEW, INV⟩
        case measure => simp [intOf]; omega
       ·have FIN : Hid (RxOut most depth (Ty.withSubs tt us) w (.returned (.tuple #[.agg #[.int .i64 0, .string ⟨#[]⟩, .int .i64 0, .string ⟨#[]⟩, .string ⟨#[]⟩, .slice none 0 0, .slice none 0 0], .int .i64 0])) (wy.setRow (w.heap.size + 1 + 1) #[.int .i64 0, .string ⟨#[]⟩, .int .i64 0, .string ⟨#[]⟩, .string ⟨#[]⟩, .slice none 0 0, .slice none 0 0])) := hZ (RxT.stop (below_over MB.out HI2.out.below) (by
         intro ⟨a1, a2⟩;rw [hM2.1] at a1;rw [hM2.2] at a2;exact hf ⟨by omega, by omega⟩))
        have X7 : wy.heap[w.heap.size + 1 + 1]? = some (.cells #[.int .i64 0, .string ⟨#[]⟩, .int .i64 0, .string ⟨#[]⟩, .string ⟨#[]⟩, .slice none 0 0, .slice none 0 0] 45 (0, 0)) := (HI2.out.below.block _ hwb).trans MR.out;have HX7 := hZ X7;clear hm2 hd2 hXS hmt hNN hM2 hmle hdle hf hXb hBx;go_upto_region 20 with fail
        go_wp2_with (first | ((with_reducible refine wpList_putRow 45 (w.heap.size + 1 + 1) #[.int .i64 0, .string ⟨#[]⟩, .int .i64 0, .string ⟨#[]⟩, .string ⟨#[]⟩, .slice none 0 0, .slice none 0 0] _ _ X7 ?_ ?_ ?_ ?_ ?_ ?_); exact tySize; rfl; exact tyOne; (focus (first | (go_simp; done) | rfl)); (focus (first | (go_simp; done) | rfl))))
        exact ret_agg (fn := Tryz.f64) (vs := [.int .i64 0, .string ⟨#[]⟩, .int .i64 0, .string ⟨#[]⟩, .string ⟨#[]⟩, .slice none 0 0, .slice none 0 0]) (b := w.heap.size + 1 + 1) rfl rfl rfl Tryz.underlying45 (by kernel_rfl) (cell7 (setRow_heap _ (w.heap.size + 1 + 1) _ _ _ _ HX7.out)) rfl FIN.out
     ·have hxs : xs = us := by
       have h := HXS.out;rw [h, List.take_of_length_le (by rw [HLEN.out, <- HN.out]; omega)]
      obtain ⟨zp, zm, za, hzn, hzs⟩ := HZT.out;have hnn := HNN.out;have hm2 := HM2.out
      have FIN : Hid (RxOut most depth (Ty.withSubs tt us) w (.returned (.tuple #[.agg #[.int .i64 tt.kind, .string tt.pkg, .int .i64 tt.major, .string tt.mod, .string tt.name, .slice A5 tt.names.length c5, .slice A6 xs.length c6], .int .i64 nn])) (wo.setRow (w.heap.size + 1 + 1) #[.int .i64 tt.kind, .string tt.pkg, .int .i64 tt.major, .string tt.mod, .string tt.name, .slice A5 tt.names.length c5, .slice A6 xs.length c6])) := hZ (by
       subst hxs;rw [hnn.1];exact HI.out.done hwb MB.out zp zm za hzn (by rw [HLEN.out]; exact hzs) (by omega) (by omega))
      obtain ⟨z0, z1, z2, z3, z4, z5, z6⟩ := cq7 HI.out.box;simp at z0 z1 z2 z3 z4 z5 z6;have X7 : wo.heap[w.heap.size + 1 + 1]? = some (.cells #[.int .i64 0, .string ⟨#[]⟩, .int .i64 0, .string ⟨#[]⟩, .string ⟨#[]⟩, .slice none 0 0, .slice none 0 0] 45 (0, 0)) := (HI.out.below.block _ hwb).trans MR.out;have HX7 := hZ X7;clear hm2 hnn hxs XT XM;go_upto_region 23 with fail
      go_wp2_with (first | ((with_reducible refine wpList_putRow 45 (w.heap.size + 1 + 1) #[.int .i64 tt.kind, .string tt.pkg, .int .i64 tt.major, .string tt.mod, .string tt.name, .slice A5 tt.names.length c5, .slice A6 xs.length c6] _ _ X7 ?_ ?_ ?_ ?_ ?_ ?_); exact tySize; rfl; exact tyOne; (focus (first | (go_simp; done) | rfl)); (focus (first | (go_simp; done) | rfl))))
      exact ret_agg (fn := Tryz.f64) (vs := [.int .i64 tt.kind, .string tt.pkg, .int .i64 tt.major, .string tt.mod, .string tt.name, .slice A5 tt.names.length c5, .slice A6 xs.length c6]) (b := w.heap.size + 1 + 1) rfl rfl rfl Tryz.underlying45 (by kernel_rfl) (cell7 (setRow_heap _ (w.heap.size + 1 + 1) _ _ _ _ HX7.out)) rfl FIN.out
end Go.Proofs.YtcdmgcgjonndpaaGreatDoor
