/-
  Several texts in one.
-/
import Derived.Test.YtcdmgcgjonndpaaGreatDoorK33
set_option maxRecDepth 100000
set_option maxHeartbeats 32000000
namespace Go.Proofs.YtcdmgcgjonndpaaGreatDoor
open Go.RowKit
open Go.Sort
open M
theorem may_all {t : Ty} (h : mayT t = true) : allOk t = true := by
  unfold mayT at h
  simp only [Bool.and_eq_true] at h;exact h.1.1
end Go.Proofs.YtcdmgcgjonndpaaGreatDoor
namespace Go.Proofs.YtcdmgcgjonndpaaGreatDoor
open Go Go.RowKit Go.Shelf
open Go.Sort
open M
def RbOut10 (m : Mo) (pkg : ByteArray) (major : Int) (env : List If) (w : World) (e : Ending) (w' : World) : Prop :=
 ∃ (c j : Int) (x : If) (l : List Value), BdIs m pkg major env c j x /\ e = .returned (.tuple #[.agg l.toArray, .int .i64 c, .int .i64 j]) /\ ifE w' l x /\ Below w.heap.size w w'
structure RbI10 (w0 : World) (bx : Nat) (p : ByteArray) (j : Int) (d : ByteArray) (T V : List Nm) (At : Option Addr) (ct : Nat) (Av : Option Addr) (cv : Nat) (wr : World) : Prop where
 below : Below w0.heap.size w0 wr
 box : wr.heap[bx]? = some (.cells #[.string p, .int .i64 j, .string d, .slice At T.length ct, .slice Av V.length cv] 32 (0, 0))
 types : RowIn nmR wr At T
 vals : RowIn nmR wr Av V
 capT : T.length <= ct
 capV : V.length <= cv
 oneT : (At = none /\ ct = 0) \/ 0 < T.length
 oneV : (Av = none /\ cv = 0) \/ 0 < V.length
theorem RbI10.keep {w0 : World} {bx : Nat} {p : ByteArray} {j : Int} {d : ByteArray} {T V : List Nm} {At : Option Addr} {ct : Nat} {Av : Option Addr} {cv : Nat} {wr wr' : World} (h : RbI10 w0 bx p j d T V At ct Av cv wr) (hb : Below wr.heap.size wr wr') : RbI10 w0 bx p j d T V At ct Av cv wr' :=
 ⟨below_over h.below hb, (hb.block _ (Array.getElem?_eq_some_iff.1 h.box).1).trans h.box, h.types.below hb, h.vals.below hb, h.capT, h.capV, h.oneT, h.oneV⟩
theorem putN_len (x : Nm) (l : List Nm) : (putN x l).length = l.length + 1 := by rw [(putN_perm x l).length_eq, List.length_cons]
theorem RbI10.type {w0 : World} {bx : Nat} {p : ByteArray} {j : Int} {d : ByteArray} {T V : List Nm} {At : Option Addr} {ct : Nat} {Av : Option Addr} {cv : Nat} {wr : World} {x : Nm} {A' : Option Addr} {c' : Nat} (h : RbI10 w0 bx p j d T V At ct Av cv wr) (hw : w0.heap.size <= bx) (hR : RowIn nmR wr A' (putN x T)) (hc : T.length + 1 <= c') :
  RbI10 w0 bx p j d (putN x T) V A' c' Av cv (wr.setCell ⟨bx, 3, none⟩ (.slice A' (T.length + 1) c')) := by
 have hf := Five.put (A' := A') (n' := T.length + 1) (c' := c') (.inl rfl) h.box
 have hb := Joins.block_setCell (i := 3) h.box (.slice A' (T.length + 1) c')
 refine ⟨h.below.setCell (by show w0.heap.size <= bx; exact hw) _, by rw [putN_len]; simpa using hb, hf.row hR, hf.row h.vals, by rw [putN_len]; exact hc, h.capV, .inr (by rw [putN_len]; omega), h.oneV⟩
theorem RbI10.val {w0 : World} {bx : Nat} {p : ByteArray} {j : Int} {d : ByteArray} {T V : List Nm} {At : Option Addr} {ct : Nat} {Av : Option Addr} {cv : Nat} {wr : World} {x : Nm} {A' : Option Addr} {c' : Nat} (h : RbI10 w0 bx p j d T V At ct Av cv wr) (hw : w0.heap.size <= bx) (hR : RowIn nmR wr A' (putN x V)) (hc : V.length + 1 <= c') :
  RbI10 w0 bx p j d T (putN x V) At ct A' c' (wr.setCell ⟨bx, 4, none⟩ (.slice A' (V.length + 1) c')) := by
 have hf := Five.put (A' := A') (n' := V.length + 1) (c' := c') (.inr rfl) h.box
 have hb := Joins.block_setCell (i := 4) h.box (.slice A' (V.length + 1) c')
 refine ⟨h.below.setCell (by show w0.heap.size <= bx; exact hw) _, by rw [putN_len]; simpa using hb, hf.row h.types, hf.row hR, h.capT, by rw [putN_len]; exact hc, h.oneT, .inr (by rw [putN_len]; omega)⟩
theorem dec_kinds {d : De} (h : mayD d = true) : d.kind = 1 \/ d.kind = 2 \/ d.kind = 3 \/ d.kind = 4 := by
 unfold mayD at h
 split at h
 ·omega
 ·split at h
  ·omega
  ·split at h
   ·omega
   ·cases h
theorem rbuild10_any (m : Mo) (pkg : ByteArray) (major : Int) (env : List If) (Ai : Option Addr) (ci : Nat) (Ad : Option Addr) (cd : Nat) (Ae : Option Addr) (ce : Nat) (w : World) (hMo : MoAt w [.string m.name, .slice Ai m.imps.length ci, .slice Ad m.decs.length cd] m)
  (hpk : pkg.size <= 9223372036854775807) (hE : RowIn ifR w Ae env) (hel : env.length <= 9223372036854775807) (h9 : ∀ x ∈ env, ∀ y ∈ x.types, many y.typ <= 9000) (hM : ∀ d ∈ m.decs, many d.typ <= 9000) :
  Calls Tryz.prog 8 #[.agg #[.string m.name, .slice Ai m.imps.length ci, .slice Ad m.decs.length cd], .string pkg, .int .i64 major, .slice Ae env.length ce] w (RbOut10 m pkg major env w) := by
 have HMo := hZ hMo
 have HM := hZ hM
 have HDE : Hid (RowIn deR w Ad m.decs) := hZ (by
  obtain ⟨A1, c1, A2, c2, e, z1, z2, z3, hi, hd⟩ := hMo;simp at e;obtain ⟨-, e3, -⟩ := e;rw [e3]; exact hd)
 have HSZ : Hid (m.name.size <= 9223372036854775807 /\ m.decs.length <= 9223372036854775807) := hZ (by
  obtain ⟨A1, c1, A2, c2, e, z1, z2, z3, hi, hd⟩ := hMo;exact ⟨z1, z3⟩)
 have CX := hZ (fun (wx : World) (hb : Below w.heap.size w wx) (t : Ty) (lt : List Value) (hT : TyAt wx lt t) (ht9 : many t <= 9000) => rall_any m [.string m.name, .slice Ai m.imps.length ci, .slice Ad m.decs.length cd] pkg major env Ae ce t lt wx (hMo.below hb) hpk (hE.below hb) hel h9 hT hM ht9)
 obtain ⟨n, hn⟩ : ∃ n, n = m.decs.length := ⟨_, rfl⟩
 obtain ⟨ni, hni⟩ : ∃ ni, ni = m.imps.length := ⟨_, rfl⟩
 have HN := hZ hn
 obtain ⟨ne, hne⟩ : ∃ ne, ne = env.length := ⟨_, rfl⟩
 have HNE := hZ hne
 rw [<- hn, <- hni, <- hne] at CX ⊢
 rw [<- hn, <- hni] at HMo
 have hn63 : n <= 9223372036854775807 := by rw [hn]; exact HSZ.out.2
 obtain ⟨W2, hW2, B2, O0, O1, hl2⟩ := two_boxes w #[.string m.name, .slice Ai ni ci, .slice Ad n cd] #[.string ⟨#[]⟩, .int .i64 0, .string ⟨#[]⟩, .slice none 0 0, .slice none 0 0] 25 32
 have HXM : Hid (∀ wx, Below W2.heap.size W2 wx -> wx.heap[w.heap.size]? = some (.cells #[.string m.name, .slice Ai ni ci, .slice Ad n cd] 25 (0, 0))) := hZ (fun wx hb => (hb.block _ (by omega)).trans O0)
 have HXR : Hid (∀ wx, Below W2.heap.size W2 wx -> wx.heap[w.heap.size + 1]? = some (.cells #[.string ⟨#[]⟩, .int .i64 0, .string ⟨#[]⟩, .slice none 0 0, .slice none 0 0] 32 (0, 0))) := hZ (fun wx hb => (hb.block _ (by omega)).trans O1)
 have s2 : W2.heap.size = w.heap.size + 1 + 1 := by rw [hW2]; simp
 have HS2 := hZ s2
 have HB2 := hZ B2
 have HW := hZ hW2
 have CK := hZ (rcheck_any m _ W2 (HMo.out.below B2) hM)
 have PUTR : Hid (∀ wx, Below W2.heap.size W2 wx -> ∀ cs, Below w.heap.size w (wx.setRow (w.heap.size + 1) cs)) := hZ (fun wx hb cs => setRow_below (below_over HB2.out hb) (by omega) cs)
 obtain ⟨x0, x1, x2⟩ := cq3 O0
 simp at x0 x1 x2
 clear hMo hE hM hn hni hne hW2 B2 O0 O1 hl2 s2 hel h9
 go_enter Tryz.func8, Tryz.ntmps8
 go_upto_region 1 with fail
 rw [<- HW.out]
 clear HW
 go_wp2_with fail
 refine CK.out.mono ?_; rintro e w3 ⟨b, p, rfl, hrk, hb3⟩
 clear CK x0 x1 x2
 have HB3 := hZ hb3
 have HRK := hZ hrk
 clear hrk hb3
 by_cases hb0 : b = 0
 rotate_left
 ·have f1 : (b == 0) = false := by simpa using hb0
  have f2 : (b != 0) = true := by simpa using hb0
  have X3 := HXR.out w3 HB3.out;have HX3 := hZ X3
  have FIN : Hid (RbOut10 m pkg major env w (.returned (.tuple #[.agg #[.string ⟨#[]⟩, .int .i64 0, .string ⟨#[]⟩, .slice none 0 0, .slice none 0 0], .int .i64 b, .int .i64 p])) (w3.setRow (w.heap.size + 1) #[.string ⟨#[]⟩, .int .i64 0, .string ⟨#[]⟩, .slice none 0 0, .slice none 0 0])) := hZ
   ⟨b, p, zIf, [.string ⟨#[]⟩, .int .i64 0, .string ⟨#[]⟩, .slice none 0 0, .slice none 0 0], .inl ⟨HRK.out, hb0, rfl⟩, rfl, zIf_at _, PUTR.out w3 HB3.out _⟩
  clear hb0;go_wp2_with (first | ((with_reducible refine wpList_putRow 32 (w.heap.size + 1) #[.string ⟨#[]⟩, .int .i64 0, .string ⟨#[]⟩, .slice none 0 0, .slice none 0 0] _ _ X3 ?_ ?_ ?_ ?_ ?_ ?_); exact ifSize; rfl; exact ifOne; (focus (first | (go_simp; done) | rfl)); (focus (first | (go_simp; done) | rfl))))
  exact ret_agg3 (fn := Tryz.f8) (vs := [.string ⟨#[]⟩, .int .i64 0, .string ⟨#[]⟩, .slice none 0 0, .slice none 0 0]) (b := w.heap.size + 1) rfl rfl rfl rfl Tryz.underlying32 (by kernel_rfl) (cell5 (setRow_heap _ (w.heap.size + 1) _ _ _ _ HX3.out)) rfl FIN.out
 subst hb0
 have HMK := hZ (rk_zero HRK.out)
 obtain ⟨q1, hq1⟩ : ∃ q, q = smallB pkg.data.toList := ⟨_, rfl⟩
 have CS := refSmall_any pkg w3 hpk
 rw [<- hq1] at CS
 have HQ1 := hZ hq1
 clear hq1
 go_wp2_with fail
 refine CS.mono ?_; rintro e w4 ⟨rfl, hb4⟩
 have HB4 := hZ (below_over HB3.out hb4)
 clear CS hb4
 have ARG : Hid (¬ (mayT (openT m pkg major nT) = true /\ env.length <= 100) -> RbOut10 m pkg major env w (.returned (.tuple #[.agg #[.string ⟨#[]⟩, .int .i64 0, .string ⟨#[]⟩, .slice none 0 0, .slice none 0 0], .int .i64 1, .int .i64 (-1)])) (w4.setRow (w.heap.size + 1) #[.string ⟨#[]⟩, .int .i64 0, .string ⟨#[]⟩, .slice none 0 0, .slice none 0 0])) := hZ (fun h => ⟨1, -1, zIf, [.string ⟨#[]⟩, .int .i64 0, .string ⟨#[]⟩, .slice none 0 0, .slice none 0 0], .inr (.inl ⟨HMK.out.1, HMK.out.2, rfl, rfl, rfl, h⟩), rfl, zIf_at _, PUTR.out w4 HB4.out _⟩)
 have HMT : Hid (mayT (openT m pkg major nT) = true -> q1 = true /\ 1 <= major /\ major <= 999999999) := hZ (fun h => by
  have h1 : mayT (opT pkg major m.name ⟨#[84]⟩) = true := h;rw [may_open] at h1;simp only [Bool.and_eq_true, decide_eq_true_eq] at h1;exact ⟨by rw [HQ1.out]; exact h1.1.1, h1.2.1, h1.2.2⟩)
 cases q1 with
 | false =>
  have FIN := hZ (ARG.out (fun h => by have := (HMT.out h.1).1; cases this));have X4 := HXR.out w4 HB4.out;have HX4 := hZ X4;go_wp2_with (first | ((with_reducible refine wpList_putRow 32 (w.heap.size + 1) #[.string ⟨#[]⟩, .int .i64 0, .string ⟨#[]⟩, .slice none 0 0, .slice none 0 0] _ _ X4 ?_ ?_ ?_ ?_ ?_ ?_); exact ifSize; rfl; exact ifOne; (focus (first | (go_simp; done) | rfl)); (focus (first | (go_simp; done) | rfl))))
  exact ret_agg3 (fn := Tryz.f8) (vs := [.string ⟨#[]⟩, .int .i64 0, .string ⟨#[]⟩, .slice none 0 0, .slice none 0 0]) (b := w.heap.size + 1) rfl rfl rfl rfl Tryz.underlying32 (by kernel_rfl) (cell5 (setRow_heap _ (w.heap.size + 1) _ _ _ _ HX4.out)) rfl FIN.out
 | true =>
 by_cases h1 : major < 1
 ·skip
  have FIN := hZ (ARG.out (fun h => by have := (HMT.out h.1).2.1; omega));have X4 := HXR.out w4 HB4.out;have HX4 := hZ X4;have g1 : decide (major < 1) = true := by simpa using h1
  go_wp2_with (first | ((with_reducible refine wpList_putRow 32 (w.heap.size + 1) #[.string ⟨#[]⟩, .int .i64 0, .string ⟨#[]⟩, .slice none 0 0, .slice none 0 0] _ _ X4 ?_ ?_ ?_ ?_ ?_ ?_); exact ifSize; rfl; exact ifOne; (focus (first | (go_simp; done) | rfl)); (focus (first | (go_simp; done) | rfl))))
  exact ret_agg3 (fn := Tryz.f8) (vs := [.string ⟨#[]⟩, .int .i64 0, .string ⟨#[]⟩, .slice none 0 0, .slice none 0 0]) (b := w.heap.size + 1) rfl rfl rfl rfl Tryz.underlying32 (by kernel_rfl) (cell5 (setRow_heap _ (w.heap.size + 1) _ _ _ _ HX4.out)) rfl FIN.out
 have g1 : decide (major < 1) = false := by simp; omega
 by_cases h2 : 999999999 < major
 ·skip
  have FIN := hZ (ARG.out (fun h => by have := (HMT.out h.1).2.2; omega));have X4 := HXR.out w4 HB4.out;have HX4 := hZ X4;have g2 : decide (999999999 < major) = true := by simpa using h2
  go_wp2_with (first | ((with_reducible refine wpList_putRow 32 (w.heap.size + 1) #[.string ⟨#[]⟩, .int .i64 0, .string ⟨#[]⟩, .slice none 0 0, .slice none 0 0] _ _ X4 ?_ ?_ ?_ ?_ ?_ ?_); exact ifSize; rfl; exact ifOne; (focus (first | (go_simp; done) | rfl)); (focus (first | (go_simp; done) | rfl))))
  exact ret_agg3 (fn := Tryz.f8) (vs := [.string ⟨#[]⟩, .int .i64 0, .string ⟨#[]⟩, .slice none 0 0, .slice none 0 0]) (b := w.heap.size + 1) rfl rfl rfl rfl Tryz.underlying32 (by kernel_rfl) (cell5 (setRow_heap _ (w.heap.size + 1) _ _ _ _ HX4.out)) rfl FIN.out
 have g2 : decide (999999999 < major) = false := by simp; omega
 by_cases h3 : 100 < ne
 ·skip
  have FIN := hZ (ARG.out (fun h => by have := h.2; have := HNE.out; omega));have X4 := HXR.out w4 HB4.out;have HX4 := hZ X4;have g3 : decide ((100 : Int) < (ne : Int)) = true := by simp; omega
  go_wp2_with (first | ((with_reducible refine wpList_putRow 32 (w.heap.size + 1) #[.string ⟨#[]⟩, .int .i64 0, .string ⟨#[]⟩, .slice none 0 0, .slice none 0 0] _ _ X4 ?_ ?_ ?_ ?_ ?_ ?_); exact ifSize; rfl; exact ifOne; (focus (first | (go_simp; done) | rfl)); (focus (first | (go_simp; done) | rfl))))
  exact ret_agg3 (fn := Tryz.f8) (vs := [.string ⟨#[]⟩, .int .i64 0, .string ⟨#[]⟩, .slice none 0 0, .slice none 0 0]) (b := w.heap.size + 1) rfl rfl rfl rfl Tryz.underlying32 (by kernel_rfl) (cell5 (setRow_heap _ (w.heap.size + 1) _ _ _ _ HX4.out)) rfl FIN.out
 have g3 : decide ((100 : Int) < (ne : Int)) = false := by simp; omega
 have HMN : Hid (MayN m pkg major env) := hZ ⟨⟨HMK.out.1, HMK.out.2⟩, by
  show mayT (opT pkg major m.name ⟨#[84]⟩) = true
  have hs : smallB m.name.data.toList = true := by
   have h := HMK.out.1;unfold mayM at h
   exact ((Bool.and_eq_true _ _).mp h).1
  rw [may_open, <- HQ1.out, hs];simp;omega, by have := HNE.out; omega⟩
 have hn60 : n <= 60 := by rw [HN.out]; exact (mayM_parts HMK.out.1).2.1
 clear ARG h1 h2 h3
 have X4 := HXM.out w4 HB4.out
 have x0 := cZ X4 0
 simp at x0
 clear X4
 obtain ⟨W7, hW7⟩ : ∃ W7, W7 = w4.alloc (.cells #[.string pkg, .int .i64 major, .string m.name, .slice none 0 0, .slice none 0 0] 32) := ⟨_, rfl⟩
 obtain ⟨bx, hbx⟩ : ∃ bx, bx = w4.heap.size := ⟨_, rfl⟩
 have START : Hid (RbI10 w4 bx pkg major m.name [] [] none 0 none 0 W7) := hZ ⟨by rw [hW7]; exact below_new (Below.refl _ _) _, by rw [hW7, hbx]; exact heap_alloc_new w4 _, fun i x h => by simp at h, fun i x h => by simp at h, by simp, by simp, .inl ⟨rfl, rfl⟩, .inl ⟨rfl, rfl⟩⟩
 have hlb : w4.heap.size <= bx := by omega
 have HW7 := hZ hW7
 have HBX := hZ hbx
 clear hW7 hbx
 go_upto_region 8 with fail
 rw [<- HW7.out, <- HBX.out]
 clear x0 HW7 g1 g2 g3
 go_wp2_with fail
 go_loopw [15] (fun s15 wr => ∃ (k : Nat) (us : List Ty) (At : Option Addr) (ct : Nat) (Av : Option Addr) (cv : Nat), k <= n /\ s15 = .int .i64 k /\ Hid (us.length = k /\ ∀ (i : Nat) (e : De) (v : Ty), m.decs[i]? = some e -> us[i]? = some v -> EpIs m pkg major env (meantD e) 0 v) /\ Hid (RbI10 w4 bx pkg major m.name (srtN (tysOf ((m.decs.take k).zip us))) (srtN (valsOf ((m.decs.take k).zip us))) At ct Av cv wr)) (fun s15 _ => n - (intOf s15).toNat)
 case atStart => exact ⟨0, [], none, 0, none, 0, by omega, rfl, hZ ⟨rfl, fun i e v _ h => by simp at h⟩, START⟩
 case round =>
  obtain ⟨k, us, At, ct, Av, cv, hk, rfl, HU, HI⟩ := hrel;obtain ⟨wo, rfl⟩ : ∃ wo : World, wo = wr := ⟨_, rfl⟩;obtain ⟨T, hT⟩ : ∃ T, T = srtN (tysOf ((m.decs.take k).zip us)) := ⟨_, rfl⟩;obtain ⟨V, hV⟩ : ∃ V, V = srtN (valsOf ((m.decs.take k).zip us)) := ⟨_, rfl⟩;rw [<- hT, <- hV] at HI
  have hTl : T.length <= 60 := by
   have h1 := tysOf_len ((m.decs.take k).zip us);rw [List.length_zip, List.length_take] at h1;rw [hT, (srtN_perm _).length_eq];omega
  have hVl : V.length <= 60 := by
   have h1 := valsOf_len ((m.decs.take k).zip us);rw [List.length_zip, List.length_take] at h1;rw [hV, (srtN_perm _).length_eq];omega
  have HTV := hZ (And.intro hT hV);clear hT hV;have HWo : Hid (Below W2.heap.size W2 wo) := hZ (below_over HB4.out HI.out.below);have HWow : Hid (Below w.heap.size w wo) := hZ (below_over HB2.out HWo.out);have Xm := HXM.out wo HWo.out;have x2 := cZ Xm 2;simp at x2;clear Xm;by_cases hlt : k < n
  ·obtain ⟨d, hd⟩ : ∃ d, m.decs[k]? = some d := ⟨_, List.getElem?_eq_getElem (by rw [<- HN.out]; exact hlt)⟩
   have HDK := hZ hd;have HMD := hZ ((mayM_parts HMK.out.1).2.2.2 d (List.mem_of_getElem? hd));have HM9 := hZ (HM.out d (List.mem_of_getElem? hd));obtain ⟨gd, od, v0, v1, v2, v3, v4, v5, v6, rfl, hgd, c0, c1, c2, c3, c4, c5, c6, c7, c8, hTd, hds⟩ := (HDE.out.below HWow.out).de hd;obtain ⟨Dn, cD, Ds, dD, rfl, rfl, rfl, rfl, rfl, rfl, rfl⟩ := hTd.seven;obtain ⟨W9, hW9⟩ : ∃ W9, W9 = wo.alloc (.cells #[.int .i64 d.kind, .string d.name, .int .i64 d.typ.kind, .string d.typ.pkg, .int .i64 d.typ.major, .string d.typ.mod, .string d.typ.name, .slice Dn d.typ.names.length cD, .slice Ds d.typ.subs.length dD] 47) := ⟨_, rfl⟩;have B9 : Below wo.heap.size wo W9 := by rw [hW9]; exact below_new (Below.refl _ _) _
   have Y9 : W9.heap[wo.heap.size]? = some (.cells #[.int .i64 d.kind, .string d.name, .int .i64 d.typ.kind, .string d.typ.pkg, .int .i64 d.typ.major, .string d.typ.mod, .string d.typ.name, .slice Dn d.typ.names.length cD, .slice Ds d.typ.subs.length dD] 47 (0, 0)) := by rw [hW9]; exact heap_alloc_new wo _
   have s9 : W9.heap.size = wo.heap.size + 1 := by rw [hW9]; simp
   have HB9 := hZ B9;have HTD9 := hZ (hTd.keep B9);have HY9 : Hid (∀ wx, Below W9.heap.size W9 wx -> wx.heap[wo.heap.size]? = some (.cells #[.int .i64 d.kind, .string d.name, .int .i64 d.typ.kind, .string d.typ.pkg, .int .i64 d.typ.major, .string d.typ.mod, .string d.typ.name, .slice Dn d.typ.names.length cD, .slice Ds d.typ.subs.length dD] 47 (0, 0))) := hZ (fun wx hb => (hb.block _ (by omega)).trans Y9);have HW9 := hZ hW9;have hk0 : (0 : Int) <= k := by omega
   have hk1 : (k : Int) < n := by omega
   obtain ⟨q2, hq2⟩ : ∃ q, (d.kind == 2) = q := ⟨_, rfl⟩;obtain ⟨q1, hq1'⟩ : ∃ q, (d.kind == 1) = q := ⟨_, rfl⟩;obtain ⟨q4, hq4⟩ : ∃ q, (d.kind == 4) = q := ⟨_, rfl⟩;have HK := hZ (And.intro hq2 (And.intro hq1' hq4))
   have SNOC : Hid (∀ u : Ty, EpIs m pkg major env (meantD d) 0 u -> ((us ++ [u]).length = k + 1 /\ ∀ (i : Nat) (e : De) (v : Ty), m.decs[i]? = some e -> (us ++ [u])[i]? = some v -> EpIs m pkg major env (meantD e) 0 v) /\ tysOf ((m.decs.take (k + 1)).zip (us ++ [u])) = tysOf ((m.decs.take k).zip us) ++ addT d u /\ valsOf ((m.decs.take (k + 1)).zip (us ++ [u])) = valsOf ((m.decs.take k).zip us) ++ addV d u) := hZ (fun u hep => by
    refine ⟨⟨by rw [List.length_append, HU.out.1]; rfl, fun i e v he hv => ?_⟩, ?_, ?_⟩
    ·rcases Nat.lt_or_ge i us.length with q | q
     ·rw [List.getElem?_append_left q] at hv
      exact HU.out.2 i e v he hv
     ·have hi := (List.getElem?_eq_some_iff.1 hv).1
      have hik : i = k := by have := HU.out.1; simp at hi; omega
      subst hik;rw [List.getElem?_append_right q, HU.out.1, Nat.sub_self] at hv;simp at hv;subst hv;rw [HDK.out] at he;cases he
      exact hep
    ·rw [zip_snoc HU.out.1 HDK.out, tysOf_snoc]; rfl
    ·rw [zip_snoc HU.out.1 HDK.out, valsOf_snoc]; rfl)
   clear hd hgd hTd hW9 B9 Y9 s9;go_upto_region 12 with fail
   rw [<- HW9.out];clear HW9 c0 c1 c2 c3 c4 c5 c6 c7 c8 x2;have Y := HY9.out W9 (Below.refl _ _);obtain ⟨m0, m1, m2, m3, m4, m5, m6, m7, m8⟩ := cq9 Y;simp at m0 m1 m2 m3 m4 m5 m6 m7 m8;clear Y;cases q2 with
   | true =>
    have h2 : d.kind = 2 := by simpa using HK.out.1
    have hme : meantD d = locD d.name := by unfold meantD; rw [if_neg (by omega)]
    have hS := SNOC.out (openT m pkg major d.name) (by rw [hme]; exact ep_hidden HMN.out HDK.out h2);have NXU := hZ hS.1
    have HI' : Hid (RbI10 w4 bx pkg major m.name (srtN (tysOf ((m.decs.take (k + 1)).zip (us ++ [openT m pkg major d.name])))) (srtN (valsOf ((m.decs.take (k + 1)).zip (us ++ [openT m pkg major d.name])))) At ct Av cv W9) := hZ (by
     have e1 : addT d (openT m pkg major d.name) = [] := by unfold addT; rw [if_neg (by omega)]
     have e2 : addV d (openT m pkg major d.name) = [] := by unfold addV; rw [if_neg (by omega)]
     rw [hS.2.1, hS.2.2, e1, e2, List.append_nil, List.append_nil, <- HTV.out.1, <- HTV.out.2];exact HI.out.keep HB9.out)
    clear hS hme h2;go_wp2_with fail
    clear m0 m1 m2 m3 m4 m5 m6 m7 m8;go_roundw
    case rel => exact ⟨k + 1, us ++ [openT m pkg major d.name], At, ct, Av, cv, by omega, by go_num, NXU, HI'⟩
    case measure => simp [intOf]; omega
   | false =>
    obtain ⟨W13, hW13⟩ : ∃ W13, W13 = W9.alloc (.cells #[.int .i64 d.typ.kind, .string d.typ.pkg, .int .i64 d.typ.major, .string d.typ.mod, .string d.typ.name, .slice Dn d.typ.names.length cD, .slice Ds d.typ.subs.length dD] 45) := ⟨_, rfl⟩;have B13 : Below W9.heap.size W9 W13 := by rw [hW13]; exact below_new (Below.refl _ _) _
    have Y13 : W13.heap[W9.heap.size]? = some (.cells #[.int .i64 d.typ.kind, .string d.typ.pkg, .int .i64 d.typ.major, .string d.typ.mod, .string d.typ.name, .slice Dn d.typ.names.length cD, .slice Ds d.typ.subs.length dD] 45 (0, 0)) := by rw [hW13]; exact heap_alloc_new W9 _
    have s13 : W13.heap.size = W9.heap.size + 1 := by rw [hW13]; simp
    have HB13 := hZ B13;have HY13 := hZ Y13;have HS13 := hZ s13;have HW13 := hZ hW13;clear hW13 B13 s13;go_upto_region 14 with fail
    rw [<- HW13.out];clear HW13 m0 m1 m2 m3 m4 m5 m6 m7 m8;have Y := HY9.out W13 HB13.out;obtain ⟨m0, m1, m2, m3, m4, m5, m6, m7, m8⟩ := cq9 Y;simp at m0 m1 m2 m3 m4 m5 m6 m7 m8;clear Y;cases q1 with
    | true =>
     obtain ⟨W15, hW15⟩ : ∃ W15, W15 = W13.setRow W9.heap.size #[.int .i64 8, .string ⟨#[]⟩, .int .i64 0, .string ⟨#[]⟩, .string d.name, .slice none 0 0, .slice none 0 0] := ⟨_, rfl⟩;have YW : W15.heap[W9.heap.size]? = some (.cells #[.int .i64 8, .string ⟨#[]⟩, .int .i64 0, .string ⟨#[]⟩, .string d.name, .slice none 0 0, .slice none 0 0] 45 (0, 0)) := by rw [hW15]; exact setRow_heap _ _ _ _ _ _ HY13.out
     have Y13 := HY13.out;have HW15 := hZ hW15;go_upto_region 16 with (first | (((with_reducible refine wpList_putRow 45 (W9.heap.size) #[.int .i64 8, .string ⟨#[]⟩, .int .i64 0, .string ⟨#[]⟩, .string d.name, .slice none 0 0, .slice none 0 0] _ _ Y13 ?_ ?_ ?_ ?_ ?_ ?_); exact tySize; rfl; exact tyOne; (focus (first | (go_simp; done) | rfl)); (focus (first | (go_simp; done) | rfl)))))
     simp only [Act.put];rw [<- HW15.out];clear hW15;clear Y13;have HBW9 : Hid (Below W9.heap.size W9 W15) := hZ (by rw [HW15.out]; exact setRow_below HB13.out (Nat.le_refl _) _);have HBWo : Hid (Below wo.heap.size wo W15) := hZ (below_over HB9.out HBW9.out);have HBW2 : Hid (Below W2.heap.size W2 W15) := hZ (below_over HWo.out HBWo.out);have CA := hZ (CX.out W15 (below_over HWow.out HBWo.out) (locD d.name) [.int .i64 8, .string ⟨#[]⟩, .int .i64 0, .string ⟨#[]⟩, .string d.name, .slice none 0 0, .slice none 0 0] (locD_at d.name _ hds) (by show (1 : Nat) + 0 <= 9000; decide));have Xm := HXM.out W15 HBW2.out;obtain ⟨x0, x1, x2⟩ := cq3 Xm;obtain ⟨t0, t1, t2, t3, t4, t5, t6⟩ := cq7 YW;simp at x0 x1 x2 t0 t1 t2 t3 t4 t5 t6;clear Xm YW m0 m1 m2 m3 m4 m5 m6 m7 m8;go_wp2_with fail
     refine CA.out.mono ?_; rintro e w16 ⟨c, u, lu, hep, rfl, hTu, hb16⟩
     obtain ⟨Un, cU, Us, dU, rfl, -⟩ := hTu.parts
     have HEP : Hid (EpIs m pkg major env (meantD d) c u) := hZ (by
      have hk1' := HK.out.2.1
      have hk2' := HK.out.1
      simp at hk1' hk2';have hme : meantD d = locD d.name := by unfold meantD; rw [if_neg (by omega)]
      rw [hme]; exact hep)
     obtain ⟨W17, hW17⟩ : ∃ W17, W17 = w16.alloc (.cells #[.int .i64 u.kind, .string u.pkg, .int .i64 u.major, .string u.mod, .string u.name, .slice Un u.names.length cU, .slice Us u.subs.length dU] 45) := ⟨_, rfl⟩;have B17 : Below w16.heap.size w16 W17 := by rw [hW17]; exact below_new (Below.refl _ _) _
     have Y17 : W17.heap[w16.heap.size]? = some (.cells #[.int .i64 u.kind, .string u.pkg, .int .i64 u.major, .string u.mod, .string u.name, .slice Un u.names.length cU, .slice Us u.subs.length dU] 45 (0, 0)) := by rw [hW17]; exact heap_alloc_new w16 _
     have HTU := hZ (hTu.keep B17);have HB17W : Hid (Below W15.heap.size W15 W17) := hZ (below_over hb16 B17);have HB17o : Hid (Below wo.heap.size wo W17) := hZ (below_over HBWo.out HB17W.out);have HB172 : Hid (Below W2.heap.size W2 W17) := hZ (below_over HWo.out HB17o.out);have HB179 : Hid (Below W9.heap.size W9 W17) := hZ (below_over HBW9.out HB17W.out);have HY17 := hZ Y17;have HW17 := hZ hW17;clear x0 x1 x2 t0 t1 t2 t3 t4 t5 t6 hep hTu hb16 hW17 B17 Y17 CA;by_cases hc0 : c = 0
     rotate_left
     ·have f1 : (c == 0) = false := by simpa using hc0
      have f2 : (c != 0) = true := by simpa using hc0
      have X17 := HXR.out W17 HB172.out;have HX17 := hZ X17
      have FIN : Hid (RbOut10 m pkg major env w (.returned (.tuple #[.agg #[.string ⟨#[]⟩, .int .i64 0, .string ⟨#[]⟩, .slice none 0 0, .slice none 0 0], .int .i64 c, .int .i64 k])) (W17.setRow (w.heap.size + 1) #[.string ⟨#[]⟩, .int .i64 0, .string ⟨#[]⟩, .slice none 0 0, .slice none 0 0])) := hZ
       ⟨c, k, zIf, [.string ⟨#[]⟩, .int .i64 0, .string ⟨#[]⟩, .slice none 0 0, .slice none 0 0], .inr (.inr ⟨HMN.out, .inl ⟨k, d, u, HDK.out, rfl, hc0, rfl, HEP.out, fun i e hi he => by
        have hl : i < us.length := by have := HU.out.1; omega
        exact ⟨us[i], HU.out.2 i e us[i] he (List.getElem?_eq_getElem hl)⟩⟩⟩), rfl, zIf_at _, PUTR.out W17 HB172.out _⟩
      clear hc0;go_upto_region 17 with fail
      rw [<- HW17.out];go_wp2_with (first | ((with_reducible refine wpList_putRow 32 (w.heap.size + 1) #[.string ⟨#[]⟩, .int .i64 0, .string ⟨#[]⟩, .slice none 0 0, .slice none 0 0] _ _ X17 ?_ ?_ ?_ ?_ ?_ ?_); exact ifSize; rfl; exact ifOne; (focus (first | (go_simp; done) | rfl)); (focus (first | (go_simp; done) | rfl))))
      exact ret_agg3 (fn := Tryz.f8) (vs := [.string ⟨#[]⟩, .int .i64 0, .string ⟨#[]⟩, .slice none 0 0, .slice none 0 0]) (b := w.heap.size + 1) rfl rfl rfl rfl Tryz.underlying32 (by kernel_rfl) (cell5 (setRow_heap _ (w.heap.size + 1) _ _ _ _ HX17.out)) rfl FIN.out
     subst hc0;have hS := SNOC.out u HEP.out;have NXU := hZ hS.1;have HSN := hZ hS.2;clear hS;have HI17 := hZ (HI.out.keep HB17o.out);go_upto_region 19 with fail
     rw [<- HW17.out];clear HW17;have Y := HY9.out W17 HB179.out;obtain ⟨m0, m1, m2, m3, m4, m5, m6, m7, m8⟩ := cq9 Y;simp at m0 m1 m2 m3 m4 m5 m6 m7 m8;clear Y;obtain ⟨t0, t1, t2, t3, t4, t5, t6⟩ := cq7 HY17.out;simp at t0 t1 t2 t3 t4 t5 t6
     obtain rfl : q4 = false := by
      have hk1' := HK.out.2.1
      have hk4' := HK.out.2.2
      simp at hk1';rw [<- hk4']; simp; omega
     have y3 := cZ HI17.out.box 3;simp at y3;have CP := hZ (rput10_any T At ct ⟨d.name, u⟩ [.string d.name, .int .i64 u.kind, .string u.pkg, .int .i64 u.major, .string u.mod, .string u.name, .slice Un u.names.length cU, .slice Us u.subs.length dU] W17 HI17.out.types ⟨hds, _, rfl, HTU.out⟩ (by omega) HI17.out.capT HI17.out.oneT);go_wp2_with fail
     refine CP.out.mono ?_; rintro e w20 ⟨A', c', rfl, hR20, hc20, hb20⟩
     have HI20 := HI17.out.keep hb20;have z3 := cZ HI20.box 3;have e3 := Lib.frozen_of_heap HI20.box 3;simp at z3;have HI21 := HI20.type hlb hR20 hc20
     have HI' : Hid (RbI10 w4 bx pkg major m.name (srtN (tysOf ((m.decs.take (k + 1)).zip (us ++ [u])))) (srtN (valsOf ((m.decs.take (k + 1)).zip (us ++ [u])))) A' c' Av cv (w20.setCell ⟨bx, 3, none⟩ (.slice A' (T.length + 1) c'))) := hZ (by
      have hk1' := HK.out.2.1
      have hk2' := HK.out.1
      have hk4' := HK.out.2.2
      simp at hk1' hk2' hk4';have hks := dec_kinds HMD.out;rw [HSN.out.1, HSN.out.2];rw [show addT d u = [⟨d.name, u⟩] by unfold addT; rw [if_pos (by omega)], show addV d u = [] by unfold addV; rw [if_neg (by omega)], List.append_nil, srtN_snoc, <- HTV.out.1, <- HTV.out.2];exact HI21)
     clear hR20 hc20 hb20 HI20 HI21 y3 m0 m1 m2 m3 m4 m5 m6 m7 m8 t0 t1 t2 t3 t4 t5 t6 CP;go_wp2_with fail
     clear z3 e3;go_roundw
     case rel => exact ⟨k + 1, us ++ [u], A', c', Av, cv, by omega, by go_num, NXU, HI'⟩
     case measure => simp [intOf]; omega
    | false =>
     go_upto_region 16 with fail
     have YW := HY13.out;have HBW9 : Hid (Below W9.heap.size W9 W13) := hZ (HB13.out);have HBWo : Hid (Below wo.heap.size wo W13) := hZ (below_over HB9.out HBW9.out);have HBW2 : Hid (Below W2.heap.size W2 W13) := hZ (below_over HWo.out HBWo.out);have CA := hZ (CX.out W13 (below_over HWow.out HBWo.out) d.typ [.int .i64 d.typ.kind, .string d.typ.pkg, .int .i64 d.typ.major, .string d.typ.mod, .string d.typ.name, .slice Dn d.typ.names.length cD, .slice Ds d.typ.subs.length dD] (HTD9.out.keep HBW9.out) (HM9.out));have Xm := HXM.out W13 HBW2.out;obtain ⟨x0, x1, x2⟩ := cq3 Xm;obtain ⟨t0, t1, t2, t3, t4, t5, t6⟩ := cq7 YW;simp at x0 x1 x2 t0 t1 t2 t3 t4 t5 t6;clear Xm YW m0 m1 m2 m3 m4 m5 m6 m7 m8;go_wp2_with fail
     refine CA.out.mono ?_; rintro e w16 ⟨c, u, lu, hep, rfl, hTu, hb16⟩
     obtain ⟨Un, cU, Us, dU, rfl, -⟩ := hTu.parts
     have HEP : Hid (EpIs m pkg major env (meantD d) c u) := hZ (by
      have hk1' := HK.out.2.1
      have hk2' := HK.out.1
      simp at hk1' hk2';rcases dec_kinds HMD.out with h | h | h | h
      ·exact absurd h hk1'
      ·exact absurd h hk2'
      ·have hme : meantD d = locD d.name := by unfold meantD; rw [if_neg (by omega)]
       rw [hme]; exact ep_alias10 HMN.out HDK.out h hep
      ·have hme : meantD d = d.typ := by unfold meantD; rw [if_pos h]
       rw [hme]; exact hep)
     obtain ⟨W17, hW17⟩ : ∃ W17, W17 = w16.alloc (.cells #[.int .i64 u.kind, .string u.pkg, .int .i64 u.major, .string u.mod, .string u.name, .slice Un u.names.length cU, .slice Us u.subs.length dU] 45) := ⟨_, rfl⟩;have B17 : Below w16.heap.size w16 W17 := by rw [hW17]; exact below_new (Below.refl _ _) _
     have Y17 : W17.heap[w16.heap.size]? = some (.cells #[.int .i64 u.kind, .string u.pkg, .int .i64 u.major, .string u.mod, .string u.name, .slice Un u.names.length cU, .slice Us u.subs.length dU] 45 (0, 0)) := by rw [hW17]; exact heap_alloc_new w16 _
     have HTU := hZ (hTu.keep B17);have HB17W : Hid (Below W13.heap.size W13 W17) := hZ (below_over hb16 B17);have HB17o : Hid (Below wo.heap.size wo W17) := hZ (below_over HBWo.out HB17W.out);have HB172 : Hid (Below W2.heap.size W2 W17) := hZ (below_over HWo.out HB17o.out);have HB179 : Hid (Below W9.heap.size W9 W17) := hZ (below_over HBW9.out HB17W.out);have HY17 := hZ Y17;have HW17 := hZ hW17;clear x0 x1 x2 t0 t1 t2 t3 t4 t5 t6 hep hTu hb16 hW17 B17 Y17 CA;by_cases hc0 : c = 0
     rotate_left
     ·have f1 : (c == 0) = false := by simpa using hc0
      have f2 : (c != 0) = true := by simpa using hc0
      have X17 := HXR.out W17 HB172.out;have HX17 := hZ X17
      have FIN : Hid (RbOut10 m pkg major env w (.returned (.tuple #[.agg #[.string ⟨#[]⟩, .int .i64 0, .string ⟨#[]⟩, .slice none 0 0, .slice none 0 0], .int .i64 c, .int .i64 k])) (W17.setRow (w.heap.size + 1) #[.string ⟨#[]⟩, .int .i64 0, .string ⟨#[]⟩, .slice none 0 0, .slice none 0 0])) := hZ
       ⟨c, k, zIf, [.string ⟨#[]⟩, .int .i64 0, .string ⟨#[]⟩, .slice none 0 0, .slice none 0 0], .inr (.inr ⟨HMN.out, .inl ⟨k, d, u, HDK.out, rfl, hc0, rfl, HEP.out, fun i e hi he => by
        have hl : i < us.length := by have := HU.out.1; omega
        exact ⟨us[i], HU.out.2 i e us[i] he (List.getElem?_eq_getElem hl)⟩⟩⟩), rfl, zIf_at _, PUTR.out W17 HB172.out _⟩
      clear hc0;go_upto_region 17 with fail
      rw [<- HW17.out];go_wp2_with (first | ((with_reducible refine wpList_putRow 32 (w.heap.size + 1) #[.string ⟨#[]⟩, .int .i64 0, .string ⟨#[]⟩, .slice none 0 0, .slice none 0 0] _ _ X17 ?_ ?_ ?_ ?_ ?_ ?_); exact ifSize; rfl; exact ifOne; (focus (first | (go_simp; done) | rfl)); (focus (first | (go_simp; done) | rfl))))
      exact ret_agg3 (fn := Tryz.f8) (vs := [.string ⟨#[]⟩, .int .i64 0, .string ⟨#[]⟩, .slice none 0 0, .slice none 0 0]) (b := w.heap.size + 1) rfl rfl rfl rfl Tryz.underlying32 (by kernel_rfl) (cell5 (setRow_heap _ (w.heap.size + 1) _ _ _ _ HX17.out)) rfl FIN.out
     subst hc0;have hS := SNOC.out u HEP.out;have NXU := hZ hS.1;have HSN := hZ hS.2;clear hS;have HI17 := hZ (HI.out.keep HB17o.out);go_upto_region 19 with fail
     rw [<- HW17.out];clear HW17;have Y := HY9.out W17 HB179.out;obtain ⟨m0, m1, m2, m3, m4, m5, m6, m7, m8⟩ := cq9 Y;simp at m0 m1 m2 m3 m4 m5 m6 m7 m8;clear Y;obtain ⟨t0, t1, t2, t3, t4, t5, t6⟩ := cq7 HY17.out;simp at t0 t1 t2 t3 t4 t5 t6;cases q4 with
     | true =>
      have y4 := cZ HI17.out.box 4;simp at y4;have CP := hZ (rput10_any V Av cv ⟨d.name, u⟩ [.string d.name, .int .i64 u.kind, .string u.pkg, .int .i64 u.major, .string u.mod, .string u.name, .slice Un u.names.length cU, .slice Us u.subs.length dU] W17 HI17.out.vals ⟨hds, _, rfl, HTU.out⟩ (by omega) HI17.out.capV HI17.out.oneV);go_wp2_with fail
      refine CP.out.mono ?_; rintro e w20 ⟨A', c', rfl, hR20, hc20, hb20⟩
      have HI20 := HI17.out.keep hb20;have z4 := cZ HI20.box 4;have e4 := Lib.frozen_of_heap HI20.box 4;simp at z4;have HI21 := HI20.val hlb hR20 hc20
      have HI' : Hid (RbI10 w4 bx pkg major m.name (srtN (tysOf ((m.decs.take (k + 1)).zip (us ++ [u])))) (srtN (valsOf ((m.decs.take (k + 1)).zip (us ++ [u])))) At ct A' c' (w20.setCell ⟨bx, 4, none⟩ (.slice A' (V.length + 1) c'))) := hZ (by
       have hk1' := HK.out.2.1
       have hk2' := HK.out.1
       have hk4' := HK.out.2.2
       simp at hk1' hk2' hk4';have hks := dec_kinds HMD.out;rw [HSN.out.1, HSN.out.2];rw [show addT d u = [] by unfold addT; rw [if_neg (by omega)], show addV d u = [⟨d.name, u⟩] by unfold addV; rw [if_pos (by omega)], List.append_nil, srtN_snoc, <- HTV.out.1, <- HTV.out.2];exact HI21)
      clear hR20 hc20 hb20 HI20 HI21 y4 m0 m1 m2 m3 m4 m5 m6 m7 m8 t0 t1 t2 t3 t4 t5 t6 CP;go_wp2_with fail
      clear z4 e4;go_roundw
      case rel => exact ⟨k + 1, us ++ [u], At, ct, A', c', by omega, by go_num, NXU, HI'⟩
      case measure => simp [intOf]; omega
     | false =>
      have y3 := cZ HI17.out.box 3;simp at y3;have CP := hZ (rput10_any T At ct ⟨d.name, u⟩ [.string d.name, .int .i64 u.kind, .string u.pkg, .int .i64 u.major, .string u.mod, .string u.name, .slice Un u.names.length cU, .slice Us u.subs.length dU] W17 HI17.out.types ⟨hds, _, rfl, HTU.out⟩ (by omega) HI17.out.capT HI17.out.oneT);go_wp2_with fail
      refine CP.out.mono ?_; rintro e w20 ⟨A', c', rfl, hR20, hc20, hb20⟩
      have HI20 := HI17.out.keep hb20;have z3 := cZ HI20.box 3;have e3 := Lib.frozen_of_heap HI20.box 3;simp at z3;have HI21 := HI20.type hlb hR20 hc20
      have HI' : Hid (RbI10 w4 bx pkg major m.name (srtN (tysOf ((m.decs.take (k + 1)).zip (us ++ [u])))) (srtN (valsOf ((m.decs.take (k + 1)).zip (us ++ [u])))) A' c' Av cv (w20.setCell ⟨bx, 3, none⟩ (.slice A' (T.length + 1) c'))) := hZ (by
       have hk1' := HK.out.2.1
       have hk2' := HK.out.1
       have hk4' := HK.out.2.2
       simp at hk1' hk2' hk4';have hks := dec_kinds HMD.out;rw [HSN.out.1, HSN.out.2];rw [show addT d u = [⟨d.name, u⟩] by unfold addT; rw [if_pos (by omega)], show addV d u = [] by unfold addV; rw [if_neg (by omega)], List.append_nil, srtN_snoc, <- HTV.out.1, <- HTV.out.2];exact HI21)
      clear hR20 hc20 hb20 HI20 HI21 y3 m0 m1 m2 m3 m4 m5 m6 m7 m8 t0 t1 t2 t3 t4 t5 t6 CP;go_wp2_with fail
      clear z3 e3;go_roundw
      case rel => exact ⟨k + 1, us ++ [u], A', c', Av, cv, by omega, by go_num, NXU, HI'⟩
      case measure => simp [intOf]; omega
  ·have hkn : k = n := by omega
   have e1 : m.decs.take k = m.decs := List.take_of_length_le (by rw [<- HN.out]; omega);have hTT : T = srtN (tysOf (m.decs.zip us)) := by have := HTV.out.1; rw [e1] at this; exact this
   have hVV : V = srtN (valsOf (m.decs.zip us)) := by have := HTV.out.2; rw [e1] at this; exact this
   have hlt' : ¬ (k : Int) < n := by omega
   have hul : us.length = m.decs.length := by rw [HU.out.1, <- HN.out]; exact hkn
   have Z7 := HXR.out wo HWo.out;have HZ7 := hZ Z7
   have FIN : Hid (RbOut10 m pkg major env w (.returned (.tuple #[.agg #[.string pkg, .int .i64 major, .string m.name, .slice At T.length ct, .slice Av V.length cv], .int .i64 0, .int .i64 (-1)])) (wo.setRow (w.heap.size + 1) #[.string pkg, .int .i64 major, .string m.name, .slice At T.length ct, .slice Av V.length cv])) := hZ (by
    refine ⟨0, -1, ifOf m pkg major us, [.string pkg, .int .i64 major, .string m.name, .slice At T.length ct, .slice Av V.length cv], .inr (.inr ⟨HMN.out, .inr ⟨rfl, rfl, us, hul, HU.out.2, rfl⟩⟩), rfl, ?_, PUTR.out wo HWo.out _⟩
    have hmy : ∀ p ∈ m.decs.zip us, allOk p.2 = true := fun p hp => by
     obtain ⟨i, e1, e2⟩ := zip_at hp;exact may_all (ep_zero (HU.out.2 i _ _ e1 e2)).2.2.1
    have h5 := Five0.put Z7 #[.string pkg, .int .i64 major, .string m.name, .slice At T.length ct, .slice Av V.length cv];refine ⟨At, ct, Av, cv, by rw [hTT, hVV]; rfl, hpk, HSZ.out.1, by show (srtN _).length <= _; rw [<- hTT]; omega, by show (srtN _).length <= _; rw [<- hVV]; omega, ?_, ?_⟩
    ·show RowIn nmR _ At (srtN (tysOf (m.decs.zip us)))
     rw [<- hTT]
     exact h5.row HI.out.types (fun x hx => by
      rw [hTT] at hx;obtain ⟨p, hp, rfl, -⟩ := tys_kind ((srtN_perm _).mem_iff.1 hx);exact hmy p hp)
    ·show RowIn nmR _ Av (srtN (valsOf (m.decs.zip us)))
     rw [<- hVV]
     exact h5.row HI.out.vals (fun x hx => by
      rw [hVV] at hx;obtain ⟨p, hp, rfl, -⟩ := vals_kind ((srtN_perm _).mem_iff.1 hx);exact hmy p hp))
   obtain ⟨y0, y1, y2, y3⟩ := cq4 HI.out.box;have y5 := cZ HI.out.box 4;simp at y0 y1 y2 y3 y5;clear e1 hTT hVV hul hkn;go_wp2_with (first | ((with_reducible refine wpList_putRow 32 (w.heap.size + 1) #[.string pkg, .int .i64 major, .string m.name, .slice At T.length ct, .slice Av V.length cv] _ _ Z7 ?_ ?_ ?_ ?_ ?_ ?_); exact ifSize; rfl; exact ifOne; (focus (first | (go_simp; done) | rfl)); (focus (first | (go_simp; done) | rfl))))
   exact ret_agg3 (fn := Tryz.f8) (vs := [.string pkg, .int .i64 major, .string m.name, .slice At T.length ct, .slice Av V.length cv]) (b := w.heap.size + 1) rfl rfl rfl rfl Tryz.underlying32 (by kernel_rfl) (cell5 (setRow_heap _ (w.heap.size + 1) _ _ _ _ HZ7.out)) rfl FIN.out
end Go.Proofs.YtcdmgcgjonndpaaGreatDoor
namespace Go.Proofs.YtcdmgcgjonndpaaGreatDoor
open Go Go.RowKit
open M
def exM10 : Mo := ⟨⟨#[109]⟩, [], [⟨1, ⟨#[84]⟩, noT⟩, ⟨4, ⟨#[102]⟩, exL 84⟩]⟩
def exO : Ty := opT ⟨#[112]⟩ 1 ⟨#[109]⟩ ⟨#[84]⟩
def exX : If := ⟨⟨#[112]⟩, 1, ⟨#[109]⟩, [⟨⟨#[84]⟩, exO⟩], [⟨⟨#[102]⟩, exO⟩]⟩
theorem ex10_may : mayM exM10 = true := by decide +kernel
theorem exT_may : mayT (exL 84) = true := by decide +kernel
theorem ex10_at : typAt exM10 ⟨#[84]⟩ = some 0 := by decide +kernel
theorem ex10_said : saidT exM10 (exL 84) = [0] := by decide +kernel
theorem ex10_saidN : saidT exM10 noT = [] := by decide +kernel
theorem ex10_two {i : Nat} {d : De} (h : exM10.decs[i]? = some d) : (i = 0 /\ d = ⟨1, ⟨#[84]⟩, noT⟩) \/ (i = 1 /\ d = ⟨4, ⟨#[102]⟩, exL 84⟩) :=
  match i, h with
  | 0, h => by simp [exM10] at h; exact .inl ⟨rfl, h.symm⟩
  | 1, h => by simp [exM10] at h; exact .inr ⟨rfl, h.symm⟩
  | i + 2, h => by simp [exM10] at h
theorem ex10_none {i : Nat} (h : Reach (entries exM10) [] i) : False := by
  induction h with
  | one h => cases h
  | step _ _ _ ih => exact ih
theorem ex10_reach {i : Nat} (h : Reach (entries exM10) [0] i) : i = 0 := by
  induction h with
  | one h => simpa using h
  | step _ hx hi ih =>
    subst ih;have h1 := entries_at (m := exM10) (i := 0) (d := ⟨1, ⟨#[84]⟩, noT⟩) rfl;rw [h1] at hx;cases hx
    rw [ex10_saidN] at hi;cases hi
theorem ex10_ok : Ok7 exM10 := by
  refine ⟨fun i h => by simp [exM10] at h, fun i h => ?_, fun i d h => ?_, fun i d h hr => ?_, fun i j d e h h' hr => ?_⟩
  · match i, h with
    | 0, _ => decide +kernel
    | 1, _ => decide +kernel
    | i + 2, h => simp [exM10] at h; omega
  · rcases ex10_two h with ⟨-, rfl⟩ | ⟨-, rfl⟩ <;> decide +kernel
  · rcases ex10_two h with ⟨rfl, rfl⟩ | ⟨rfl, rfl⟩
    · rw [show (De.mk 1 ⟨#[84]⟩ noT).typ = noT from rfl, ex10_saidN] at hr
      exact ex10_none hr
    · rw [show (De.mk 4 ⟨#[102]⟩ (exL 84)).typ = exL 84 from rfl, ex10_said] at hr
      have := ex10_reach hr
      omega
  · rcases ex10_two h' with ⟨-, rfl⟩ | ⟨-, rfl⟩ <;> decide
theorem ex10_mayN : MayN exM10 ⟨#[112]⟩ 1 [] := ⟨⟨ex10_may, ex10_ok⟩, by decide +kernel, by decide⟩
theorem ex10_known : (locT (exL 84)).all (knoN exM10) = true := by decide +kernel
theorem ex10_loc : locT (exL 84) = [exL 84] := by rfl
theorem ex10_lacks : ((allK exM10 (exL 84) exM10.decs.length).any fun s => lacksN exM10 [] (locT s)) = false := by
  rw [List.any_eq_false];intro s hs;rcases allK_mem hs with rfl | ⟨k, d, hd, h3, -, rfl⟩
  · rw [ex10_loc]; decide
  · rcases ex10_two hd with ⟨rfl, rfl⟩ | ⟨rfl, rfl⟩
    · simp at h3
    · simp at h3
theorem ex10_exp : ExpH (meanT exM10 ⟨#[112]⟩ 1 []) 2 (exL 84) exO := by
  have hT : meanT exM10 ⟨#[112]⟩ 1 [] (exL 84) = some exO := by
    unfold meanT
    rw [if_pos (show (exL 84).mod.size = 0 from rfl), show (exL 84).name = ⟨#[84]⟩ from rfl, ex10_at];rfl
  exact .inl ⟨rfl, _, hT, .inr ⟨by decide, [], rfl, rfl, fun i s v hs _ => by simp [exO, opT, Ty.subs] at hs⟩⟩
theorem ex10_ep {c : Int} {u : Ty} (h : EpIs exM10 ⟨#[112]⟩ 1 [] (exL 84) c u) : c = 0 /\ u = exO := by
  rcases h with ⟨-, -, h⟩ | ⟨-, -, h⟩
  · exact absurd ⟨ex10_mayN, exT_may⟩ h
  · rcases h with ⟨-, -, h⟩ | ⟨-, h⟩
    · rw [ex10_known] at h; cases h
    · rcases h with ⟨-, -, h⟩ | ⟨-, hh, x, hx, h⟩
      · rw [ex10_lacks] at h; cases h
      · obtain rfl := exp_one _ _ _ _ _ hx ex10_exp
        rcases h with ⟨-, -, h⟩ | ⟨hc, hu, -⟩
        · rcases h with h | h
          · exact absurd h (by decide +kernel)
          · exact absurd h (by decide +kernel)
        · exact ⟨hc, hu⟩
theorem ex10_meant {i : Nat} {d : De} (h : exM10.decs[i]? = some d) : meantD d = exL 84 := by
  rcases ex10_two h with ⟨-, rfl⟩ | ⟨-, rfl⟩ <;> rfl
theorem ex10_check : check7 exM10 = none := check7_none.2 ex10_ok
theorem ex10_is {c j : Int} {x : If} (h : BdIs exM10 ⟨#[112]⟩ 1 [] c j x) : c = 0 /\ x = exX := by
  rcases h with ⟨hr, hc, -⟩ | ⟨-, -, -, -, -, h⟩ | ⟨-, h⟩
  · rcases hr with ⟨h, -⟩ | ⟨-, h⟩
    · rw [ex10_may] at h; cases h
    · rw [ex10_check] at h
      exact absurd h.1 hc
  · exact absurd ⟨ex10_mayN.2.1, ex10_mayN.2.2⟩ h
  · rcases h with ⟨i, d, u, hd, -, hc, -, he, -⟩ | ⟨hc, -, us, hl, hus, rfl⟩
    · rw [ex10_meant hd] at he
      exact absurd (ex10_ep he).1 hc
    · refine ⟨hc, ?_⟩
      match us, hl, hus with
      | [u0, u1], _, hus =>
        obtain rfl := (ex10_ep (hus 0 _ u0 rfl rfl)).2;obtain rfl := (ex10_ep (hus 1 _ u1 rfl rfl)).2;rfl
theorem exX_may : mayIf exX = true := by decide +kernel
theorem zIf_may : mayIf zIf = false := by decide +kernel
end Go.Proofs.YtcdmgcgjonndpaaGreatDoor
