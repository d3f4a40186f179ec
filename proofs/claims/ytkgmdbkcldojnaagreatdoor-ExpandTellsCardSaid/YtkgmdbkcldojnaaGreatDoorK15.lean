/-
  Several texts in one:  ·  · 
-/
import Derived.Test.YtkgmdbkcldojnaaGreatDoorK14
import Derived.Test.YtkgmdbkcldojnaaGreatDoorK03
import Derived.Test.YtkgmdbkcldojnaaGreatDoorK05
import Derived.Test.YtkgmdbkcldojnaaGreatDoorK04
import Derived.Test.YtkgmdbkcldojnaaGreatDoorK02
import Derived.Laws.MakeOwn
import Derived.Lib.SliceRun
import Derived.Deep.Upon
/-  -/
namespace Go.Proofs.YtkgmdbkcldojnaaGreatDoor
open Go Go.RowKit Go.Shelf
open Go.Sort Go.Maps
open M
theorem there_at {m : Mo} {env : List If} {t : Ty} {i : Nat} {x : Im} (h : impAt m t.mod = some i) (hx : m.imps[i]? = some x) : thereT m env t = match envT env x t.name with | none => none | some s => if (mayT s && plainT s) = true then some s else none := by
 unfold thereT; simp only [h, hx]
 cases envT env x t.name <;> rfl
theorem there_no {m : Mo} {env : List If} {t : Ty} (h : impAt m t.mod = none) : thereT m env t = none := by unfold thereT; rw [h]
theorem env_at {env : List If} {x : Im} {s : ByteArray} {k n : Nat} {i : If} {y : Nm} (hk : findI env x.pkg x.major x.mod = some k) (hi : env[k]? = some i) (hn : ofI i.types s = some n) (hy : i.types[n]? = some y) : envT env x s = some y.typ := by
 unfold envT; rw [hk]; simp only []; rw [hi]; simp only []; rw [hn]; simp only []; rw [hy]; rfl
theorem env_no1 {env : List If} {x : Im} {s : ByteArray} (hk : findI env x.pkg x.major x.mod = none) : envT env x s = none := by unfold envT; rw [hk]
theorem env_no2 {env : List If} {x : Im} {s : ByteArray} {k : Nat} {i : If} (hk : findI env x.pkg x.major x.mod = some k) (hi : env[k]? = some i) (hn : ofI i.types s = none) : envT env x s = none := by
 unfold envT; rw [hk]; simp only []; rw [hi]; simp only []; rw [hn]
theorem findI_lt {env : List If} {p : ByteArray} {j : Int} {d : ByteArray} {k : Nat} (h : findI env p j d = some k) : k < env.length := by
 unfold findI at h
 rw [List.findIdx?_eq_some_iff_getElem] at h
 exact h.1
theorem ofI_lt {l : List Nm} {s : ByteArray} {k : Nat} (h : ofI l s = some k) : k < l.length := by
 unfold ofI at h
 rw [List.findIdx?_eq_some_iff_getElem] at h
 exact h.1
def ThOut (w : World) (m : Mo) (env : List If) (t : Ty) (e : Ending) (w' : World) : Prop :=
 ∃ (l7 : List Value) (s : Ty) (b : Bool), e = .returned (.tuple #[.agg l7.toArray, .bool b]) ∧ TyAt w' l7 s ∧ b = (thereT m env t).isSome ∧ (∀ s0, thereT m env t = some s0 → s = s0) ∧ Below w.heap.size w w'
theorem zero_at (w : World) : TyAt w [.int .i64 0, .string ⟨#[]⟩, .int .i64 0, .string ⟨#[]⟩, .string ⟨#[]⟩, .slice none 0 0, .slice none 0 0] (.mk 0 ⟨#[]⟩ 0 ⟨#[]⟩ ⟨#[]⟩ [] []) :=
 .mk 0 ⟨#[]⟩ 0 ⟨#[]⟩ ⟨#[]⟩ [] [] none 0 none 0 (fun _ => [.int .i64 0, .string ⟨#[]⟩, .int .i64 0, .string ⟨#[]⟩, .string ⟨#[]⟩, .slice none 0 0, .slice none 0 0]) (by decide) (by decide) (by decide) (by decide) (by decide) (by decide) (fun i s h => by simp at h) (fun _ => rfl) (fun i t h => by simp at h) (fun i t h => by simp at h)
theorem th_zero {w wk : World} {m : Mo} {env : List If} {t : Ty} {b : Nat} (h : thereT m env t = none) (hb : Below w.heap.size w wk) (hle : w.heap.size ≤ b) : ThOut w m env t (.returned (.tuple #[.agg #[.int .i64 0, .string ⟨#[]⟩, .int .i64 0, .string ⟨#[]⟩, .string ⟨#[]⟩, .slice none 0 0, .slice none 0 0], .bool false])) (wk.setRow b #[.int .i64 0, .string ⟨#[]⟩, .int .i64 0, .string ⟨#[]⟩, .string ⟨#[]⟩, .slice none 0 0, .slice none 0 0]) :=
 ⟨[.int .i64 0, .string ⟨#[]⟩, .int .i64 0, .string ⟨#[]⟩, .string ⟨#[]⟩, .slice none 0 0, .slice none 0 0], _, false, rfl, zero_at _, by rw [h]; rfl, fun s0 hs => by (rw [h] at hs; cases hs), setRow_below hb hle _⟩
set_option maxRecDepth 100000 in
set_option maxHeartbeats 16000000 in
theorem there_any (m : Mo) (l : List Value) (A : Option Addr) (c : Nat) (env : List If) (t : Ty) (l7 : List Value) (w : World) (h : MoAt w l m) (hE : RowIn ifR w A env) (hel : env.length ≤ 9223372036854775807) (hv : ShL l7 t) (h9 : ∀ x ∈ env, ∀ y ∈ x.types, many y.typ ≤ 9000) :
  Calls Tryz.prog 81 #[.agg l.toArray, .slice A env.length c, .agg l7.toArray] w (ThOut w m env t) := by
 obtain ⟨Ai, ci, Ad, cd, rfl, z1, z2, z3, hIm, -⟩ := h
 obtain ⟨An, cA, As, cS, rfl⟩ := hv
 obtain ⟨ni, hni⟩ : ∃ ni, ni = m.imps.length := ⟨_, rfl⟩
 have HNI := Lib.hid hni
 rw [← hni] at z2 ⊢
 have H9 := Lib.hid h9
 have HE0 := Lib.hid hE
 obtain ⟨W2, hW2, B2, O0, O1, hl2⟩ := two_boxes w #[.string m.name, .slice Ai ni ci, .slice Ad m.decs.length cd] #[.int .i64 t.kind, .string t.pkg, .int .i64 t.major, .string t.mod, .string t.name, .slice An t.names.length cA, .slice As t.subs.length cS] 25 30
 have s2 : W2.heap.size = w.heap.size + 1 + 1 := by rw [hW2]; simp
 obtain ⟨W3, hW3⟩ : ∃ W3, W3 = W2.alloc (.cells #[.int .i64 0, .string ⟨#[]⟩, .int .i64 0, .string ⟨#[]⟩, .string ⟨#[]⟩, .slice none 0 0, .slice none 0 0] 30) := ⟨_, rfl⟩
 have B3 : Below W2.heap.size W2 W3 := by rw [hW3]; exact below_new (Below.refl _ _) _
 have s3 : W3.heap.size = w.heap.size + 1 + 1 + 1 := by rw [hW3]; simp [s2]
 have O2 : W3.heap[w.heap.size + 1 + 1]? = some (.cells #[.int .i64 0, .string ⟨#[]⟩, .int .i64 0, .string ⟨#[]⟩, .string ⟨#[]⟩, .slice none 0 0, .slice none 0 0] 30 (0, 0)) := by rw [hW3, ← s2]; exact heap_alloc_new W2 _
 have HB3 : Hid (Below w.heap.size w W3) := Lib.hid (below_over B2 B3)
 have HM : Hid (∀ wx, Below W3.heap.size W3 wx → wx.heap[w.heap.size]? = some (.cells #[.string m.name, .slice Ai ni ci, .slice Ad m.decs.length cd] 25 (0, 0))) := Lib.hid (fun wx hb => (hb.block _ (by omega)).trans ((B3.block _ (by omega)).trans O0))
 have HT : Hid (∀ wx, Below W3.heap.size W3 wx → wx.heap[w.heap.size + 1]? = some (.cells #[.int .i64 t.kind, .string t.pkg, .int .i64 t.major, .string t.mod, .string t.name, .slice An t.names.length cA, .slice As t.subs.length cS] 30 (0, 0))) := Lib.hid (fun wx hb => (hb.block _ (by omega)).trans ((B3.block _ (by omega)).trans O1))
 have HR : Hid (∀ wx, Below W3.heap.size W3 wx → wx.heap[w.heap.size + 1 + 1]? = some (.cells #[.int .i64 0, .string ⟨#[]⟩, .int .i64 0, .string ⟨#[]⟩, .string ⟨#[]⟩, .slice none 0 0, .slice none 0 0] 30 (0, 0))) := Lib.hid (fun wx hb => (hb.block _ (by omega)).trans O2)
 have HI : Hid (∀ wx, Below W3.heap.size W3 wx → RowIn imR wx Ai m.imps) := Lib.hid (fun wx hb => hIm.below (below_over HB3.out hb))
 have HE : Hid (∀ wx, Below W3.heap.size W3 wx → RowIn ifR wx A env) := Lib.hid (fun wx hb => hE.below (below_over HB3.out hb))
 have HW : Hid (((w.alloc (.cells #[.string m.name, .slice Ai ni ci, .slice Ad m.decs.length cd] 25)).alloc (.cells #[.int .i64 t.kind, .string t.pkg, .int .i64 t.major, .string t.mod, .string t.name, .slice An t.names.length cA, .slice As t.subs.length cS] 30)).alloc (.cells #[.int .i64 0, .string ⟨#[]⟩, .int .i64 0, .string ⟨#[]⟩, .string ⟨#[]⟩, .slice none 0 0, .slice none 0 0] 30) = W3) := Lib.hid (by rw [hW3, hW2])
 have hbl : w.heap.size ≤ w.heap.size + 1 + 1 := by omega
 clear hIm hE hW2 hW3 B2 B3 O0 O1 O2 s2 hl2 hni h9
 go_enter Tryz.func81, Tryz.ntmps81
 go_upto_region 1 with fail
 rw [HW.out]
 clear HW
 go_wp2_with fail
 go_loopw [8] (fun s8 wr => ∃ i : Nat, i ≤ ni ∧ s8 = .int .i64 i ∧ Hid (∀ x ∈ m.imps.take i, decide (x.asn = t.mod) = false) ∧ Hid (Below W3.heap.size W3 wr)) (fun s8 _ => ni - (intOf s8).toNat)
 case atStart => exact ⟨0, by omega, rfl, Lib.hid (by simp), Lib.hid (Below.refl _ _)⟩
 case round =>
  obtain ⟨i, hi, rfl, HNO, HBo⟩ := hrel
  obtain ⟨wo, rfl⟩ : ∃ wo : World, wo = wr := ⟨_, rfl⟩
  have x1 := Lib.cell_of_heap (HM.out wo HBo.out) 1
  simp at x1
  have hwo : w.heap.size + 1 + 1 < wo.heap.size := by have := HBo.out.size; omega
  by_cases hlt : i < ni
  ·obtain ⟨x, hx⟩ : ∃ x, m.imps[i]? = some x := ⟨_, List.getElem?_eq_getElem (by rw [← HNI.out]; exact hlt)⟩
   obtain ⟨g, o, rfl, -, a0, a1, a2, a3, zp, zd, za⟩ := (HI.out wo HBo.out).im hx
   obtain ⟨w4, hw4⟩ : ∃ w4, w4 = wo.alloc (.cells #[.string x.pkg, .int .i64 x.major, .string x.mod, .string x.asn] 41) := ⟨_, rfl⟩
   have B4 : Below wo.heap.size wo w4 := by rw [hw4]; exact below_new (Below.refl _ _) _
   have O4 : w4.heap[wo.heap.size]? = some (.cells #[.string x.pkg, .int .i64 x.major, .string x.mod, .string x.asn] 41 (0, 0)) := by rw [hw4]; exact heap_alloc_new wo _
   have hl4 : wo.heap.size < w4.heap.size := by rw [hw4]; simp
   have HB4 : Hid (Below W3.heap.size W3 w4) := Lib.hid (below_over HBo.out B4)
   have t3 := Lib.cell_of_heap (HT.out w4 HB4.out) 3
   have y0 := Lib.cell_of_heap O4 0
   have y1 := Lib.cell_of_heap O4 1
   have y2 := Lib.cell_of_heap O4 2
   have y3 := Lib.cell_of_heap O4 3
   simp at t3 y0 y1 y2 y3
   have hq := str_eq x.asn t.mod
   have HX := Lib.hid hx
   have HW4 := Lib.hid hw4
   have HBB4 := Lib.hid B4
   have hi0 : (0 : Int) ≤ i := by omega
   have hi1 : (i : Int) < ni := by omega
   clear hx hw4 B4 O4
   go_upto_region 5 with fail
   rw [← HW4.out]
   clear x1 a0 a1 a2 a3 HW4
   by_cases hs : x.asn = t.mod
   ·have HIA : Hid (impAt m t.mod = some i) := Lib.hid (idx_yes HX.out HNO.out (by simpa using hs))
    have HTH : Hid (thereT m env t = match envT env x t.name with | none => none | some s => if (mayT s && plainT s) = true then some s else none) := Lib.hid (there_at HIA.out HX.out)
    rw [decide_eq_true hs] at hq
    clear hs
    go_wp2_with fail
    refine (rfind8_any A c env x.pkg x.major x.mod w4 (HE.out w4 HB4.out) hel).mono ?_; rintro e w5 ⟨rfl, hb5⟩
    have HB5 : Hid (Below W3.heap.size W3 w5) := Lib.hid (below_over HB4.out hb5)
    clear t3 y0 y1 y2 y3 hb5 hq
    cases hk : findI env x.pkg x.major x.mod with
    | none =>
     have FIN := Lib.hid (th_zero (w := w) (wk := w5) (m := m) (env := env) (t := t) (by rw [HTH.out, env_no1 hk]) (below_over HB3.out HB5.out) hbl)
     have X5 := HR.out w5 HB5.out
     have HX5 := Lib.hid X5
     have e1 : optN none = -1 := rfl
     rw [e1]
     clear hk e1
     go_upto_region 8 with fail
     go_wp2_with (first | (((with_reducible refine wpList_putRow 30 (w.heap.size + 1 + 1) #[.int .i64 0, .string ⟨#[]⟩, .int .i64 0, .string ⟨#[]⟩, .string ⟨#[]⟩, .slice none 0 0, .slice none 0 0] _ _ X5 ?_ ?_ ?_ ?_ ?_ ?_); exact tySize; rfl; exact tyOne; (focus (first | (go_simp; done) | rfl)); (focus (first | (go_simp; done) | rfl)))))
     exact ret_agg (fn := Tryz.f81) (vs := [.int .i64 0, .string ⟨#[]⟩, .int .i64 0, .string ⟨#[]⟩, .string ⟨#[]⟩, .slice none 0 0, .slice none 0 0]) (b := w.heap.size + 1 + 1) rfl rfl rfl Tryz.underlying30 (by kernel_rfl) (cell7 (setRow_heap w5 (w.heap.size + 1 + 1) _ _ _ _ HX5.out)) rfl FIN.out
    | some k =>
     obtain ⟨y, hy⟩ : ∃ y, env[k]? = some y := ⟨_, List.getElem?_eq_getElem (findI_lt hk)⟩
     obtain ⟨ge, oe, At, ct, Av, cv, rfl, hge, e0, e1, e2, e3, e4, -, -, zt, -, hTy, -⟩ := HE0.out.ifc hy
     have e3' := ((below_over HB3.out HB5.out).cell (p := ⟨ge, _, none⟩) hge).trans e3
     have T5 := HT.out w5 HB5.out
     have t4 := Lib.cell_of_heap T5 4
     simp at t4
     have hkl : k < env.length := findI_lt hk
     have hk0 : (0 : Int) ≤ k := by omega
     have hk1 : (k : Int) < env.length := by omega
     have hk2 : ¬ (k : Int) < 0 := by omega
     obtain ⟨J, hJ⟩ : ∃ J, J = optN (ofI y.types t.name) := ⟨_, rfl⟩
     have cO : ∀ dd os, Calls Tryz.prog 13 #[.slice At y.types.length ct, .string t.name] (Sort.grow (redrawn w5 dd) os) fun e w'' => e = .returned (.int .i64 J) ∧ ∃ pp : Regrown, w'' = Sort.grow (redrawn w5 pp.d) pp.os := fun dd os => Calls.regrown_of (by rw [hJ]; exact rof8_any At ct y.types t.name _ ((hTy.below (below_over HB3.out HB5.out)).below (below_regrown w5 dd os)) zt)
     have HK := Lib.hid hk
     have HY := Lib.hid hy
     have HTy := Lib.hid hTy
     have HJ := Lib.hid hJ
     have HE3 := Lib.hid e3
     have ek : optN (some k) = (k : Int) := rfl
     rw [ek]
     clear hk hy e0 e1 e2 e3 e4 hTy T5 hJ ek
     go_upto_region 9 with fail
     have p0 := cell_regrown e3'
     have p1 := cell_regrown t4
     clear e3' t4
     refine wp_region_quiet_below (by kernel_rfl) (by kernel_rfl) ?_
     repeat (any_goals (first | go_big_quiet_step (with_reducible exact cO _ _) | quiet_step (with_reducible exact cO _ _)))
     refine wpQuiet_nil ?_
     intro w6 hw'
     have HB6 : Hid (Below W3.heap.size W3 w6) := Lib.hid (by
      obtain ⟨⟨dq, osq⟩, hw''⟩ := hw'
      rw [hw'']
      exact below_over HB5.out (below_regrown w5 dq osq))
     clear hw' cO p0 p1
     cases hn : ofI y.types t.name with
     | none =>
      have FIN := Lib.hid (th_zero (w := w) (wk := w6) (m := m) (env := env) (t := t) (by rw [HTH.out, env_no2 HK.out HY.out hn]) (below_over HB3.out HB6.out) hbl)
      have X5 := HR.out w6 HB6.out
      have HX5 := Lib.hid X5
      obtain rfl : J = -1 := by rw [HJ.out, hn]; rfl
      clear hn
      go_upto_region 11 with fail
      go_wp2_with (first | (((with_reducible refine wpList_putRow 30 (w.heap.size + 1 + 1) #[.int .i64 0, .string ⟨#[]⟩, .int .i64 0, .string ⟨#[]⟩, .string ⟨#[]⟩, .slice none 0 0, .slice none 0 0] _ _ X5 ?_ ?_ ?_ ?_ ?_ ?_); exact tySize; rfl; exact tyOne; (focus (first | (go_simp; done) | rfl)); (focus (first | (go_simp; done) | rfl)))))
      exact ret_agg (fn := Tryz.f81) (vs := [.int .i64 0, .string ⟨#[]⟩, .int .i64 0, .string ⟨#[]⟩, .string ⟨#[]⟩, .slice none 0 0, .slice none 0 0]) (b := w.heap.size + 1 + 1) rfl rfl rfl Tryz.underlying30 (by kernel_rfl) (cell7 (setRow_heap w6 (w.heap.size + 1 + 1) _ _ _ _ HX5.out)) rfl FIN.out
     | some n =>
      obtain rfl : J = (n : Int) := by rw [HJ.out, hn]; rfl
      have hnl := ofI_lt hn
      obtain ⟨z, hz⟩ : ∃ z, y.types[n]? = some z := ⟨_, List.getElem?_eq_getElem hnl⟩
      obtain ⟨gt, ot, Bn, cB, Bs, dB, rfl, hgt, -, f0, f1, f2, f3, f4, f5, f6, hTz, -⟩ := HTy.out.nm hz
      have HENV : Hid (envT env x t.name = some z.typ) := Lib.hid (env_at HK.out HY.out hn hz)
      have hz9 := H9.out y (List.mem_of_getElem? HY.out) z (List.mem_of_getElem? hz)
      have B06 := below_over HB3.out HB6.out
      have g3 := (B06.cell (p := ⟨ge, _, none⟩) hge).trans HE3.out
      have q := fun o v (hv : w.cell? ⟨gt, o, none⟩ = some v) => (B06.cell (p := ⟨gt, o, none⟩) hgt).trans hv
      have q0 := q _ _ f0
      have q1 := q _ _ f1
      have q2 := q _ _ f2
      have q3 := q _ _ f3
      have q4 := q _ _ f4
      have q5 := q _ _ f5
      have q6 := q _ _ f6
      obtain ⟨w7, hw7⟩ : ∃ w7, w7 = w6.alloc (.cells #[.int .i64 z.typ.kind, .string z.typ.pkg, .int .i64 z.typ.major, .string z.typ.mod, .string z.typ.name, .slice Bn z.typ.names.length cB, .slice Bs z.typ.subs.length dB] 30) := ⟨_, rfl⟩
      have B7 : Below w6.heap.size w6 w7 := by rw [hw7]; exact below_new (Below.refl _ _) _
      have O7 : w7.heap[w6.heap.size]? = some (.cells #[.int .i64 z.typ.kind, .string z.typ.pkg, .int .i64 z.typ.major, .string z.typ.mod, .string z.typ.name, .slice Bn z.typ.names.length cB, .slice Bs z.typ.subs.length dB] 30 (0, 0)) := by rw [hw7]; exact heap_alloc_new w6 _
      have hl7 : w6.heap.size < w7.heap.size := by rw [hw7]; simp
      have HB7 : Hid (Below W3.heap.size W3 w7) := Lib.hid (below_over HB6.out B7)
      have HO7 := Lib.hid O7
      have HW7 := Lib.hid hw7
      have HTZ : Hid (∀ wx, Below w.heap.size w wx → TyAt wx [.int .i64 z.typ.kind, .string z.typ.pkg, .int .i64 z.typ.major, .string z.typ.mod, .string z.typ.name, .slice Bn z.typ.names.length cB, .slice Bs z.typ.subs.length dB] z.typ) := Lib.hid (fun wx hb => hTz.keep hb)
      have hn0 : (0 : Int) ≤ n := by omega
      have hn1 : (n : Int) < y.types.length := by omega
      have hn2 : ¬ (n : Int) < 0 := by omega
      clear hn hz hTz f0 f1 f2 f3 f4 f5 f6 q B06 hw7 B7 O7 HJ
      go_upto_region 12 with fail
      go_upto_region 13 with fail
      rw [← HW7.out]
      clear g3 q0 q1 q2 q3 q4 q5 q6 HW7
      have o7 := HO7.out
      have r0 := Lib.cell_of_heap o7 0
      have r1 := Lib.cell_of_heap o7 1
      have r2 := Lib.cell_of_heap o7 2
      have r3 := Lib.cell_of_heap o7 3
      have r4 := Lib.cell_of_heap o7 4
      have r5 := Lib.cell_of_heap o7 5
      have r6 := Lib.cell_of_heap o7 6
      simp at r0 r1 r2 r3 r4 r5 r6
      clear o7
      go_wp2_with fail
      refine (may_any z.typ _ w7 hz9 ⟨_, rfl, HTZ.out w7 (below_over HB3.out HB7.out)⟩).mono ?_; rintro e w8 ⟨rfl, hb8⟩
      have HB8 : Hid (Below W3.heap.size W3 w8) := Lib.hid (below_over HB7.out hb8)
      have HO8 := Lib.hid ((hb8.block _ hl7).trans HO7.out)
      have hl8 := Nat.lt_of_lt_of_le hl7 hb8.size
      clear r0 r1 r2 r3 r4 r5 r6 hb8 HO7
      obtain ⟨b1, hb1⟩ : ∃ b, b = mayT z.typ := ⟨_, rfl⟩
      obtain ⟨b2, hb2⟩ : ∃ b, b = plainT z.typ := ⟨_, rfl⟩
      rw [← hb1]
      have HTHz : Hid (thereT m env t = if (b1 && b2) = true then some z.typ else none) := Lib.hid (by rw [HTH.out, HENV.out, hb1, hb2])
      have FIN : Hid (∀ wk, Below w.heap.size w wk → ThOut w m env t (.returned (.tuple #[.agg #[.int .i64 z.typ.kind, .string z.typ.pkg, .int .i64 z.typ.major, .string z.typ.mod, .string z.typ.name, .slice Bn z.typ.names.length cB, .slice Bs z.typ.subs.length dB], .bool (b1 && b2)])) (wk.setRow (w.heap.size + 1 + 1) #[.int .i64 z.typ.kind, .string z.typ.pkg, .int .i64 z.typ.major, .string z.typ.mod, .string z.typ.name, .slice Bn z.typ.names.length cB, .slice Bs z.typ.subs.length dB])) := Lib.hid (fun wk hb => by
       have hbs := setRow_below hb hbl #[.int .i64 z.typ.kind, .string z.typ.pkg, .int .i64 z.typ.major, .string z.typ.mod, .string z.typ.name, .slice Bn z.typ.names.length cB, .slice Bs z.typ.subs.length dB]
       refine ⟨_, z.typ, _, rfl, HTZ.out _ hbs, ?_, fun s0 hs => ?_, hbs⟩
       ·rw [HTHz.out]; cases (b1 && b2) <;> rfl
       ·rw [HTHz.out] at hs
        split at hs
        ·cases hs; rfl
        ·cases hs)
      have HBB2 := Lib.hid hb2
      clear hb1 hb2
      have o8 := HO8.out
      have r0 := Lib.cell_of_heap o8 0
      have r1 := Lib.cell_of_heap o8 1
      have r2 := Lib.cell_of_heap o8 2
      have r3 := Lib.cell_of_heap o8 3
      have r4 := Lib.cell_of_heap o8 4
      have r5 := Lib.cell_of_heap o8 5
      have r6 := Lib.cell_of_heap o8 6
      simp at r0 r1 r2 r3 r4 r5 r6
      clear o8
      cases b1 with
      | false =>
       have X5 := HR.out w8 HB8.out
       have HX5 := Lib.hid X5
       have FF := Lib.hid (FIN.out w8 (below_over HB3.out HB8.out))
       go_upto_region 15 with fail
       go_wp2_with (first | (((with_reducible refine wpList_putRow 30 (w.heap.size + 1 + 1) #[.int .i64 z.typ.kind, .string z.typ.pkg, .int .i64 z.typ.major, .string z.typ.mod, .string z.typ.name, .slice Bn z.typ.names.length cB, .slice Bs z.typ.subs.length dB] _ _ X5 ?_ ?_ ?_ ?_ ?_ ?_); exact tySize; rfl; exact tyOne; (focus (first | (go_simp; done) | rfl)); (focus (first | (go_simp; done) | rfl)))))
       exact ret_agg (fn := Tryz.f81) (vs := [.int .i64 z.typ.kind, .string z.typ.pkg, .int .i64 z.typ.major, .string z.typ.mod, .string z.typ.name, .slice Bn z.typ.names.length cB, .slice Bs z.typ.subs.length dB]) (b := w.heap.size + 1 + 1) rfl rfl rfl Tryz.underlying30 (by kernel_rfl) (cell7 (setRow_heap w8 (w.heap.size + 1 + 1) _ _ _ _ HX5.out)) rfl FF.out
      | true =>
       go_wp2_with fail
       refine (plain_any (many z.typ) z.typ (Nat.le_refl _) _ w8 ⟨_, rfl, HTZ.out w8 (below_over HB3.out HB8.out)⟩).mono ?_; rintro e w9 ⟨rfl, hb9⟩
       have HB9 : Hid (Below W3.heap.size W3 w9) := Lib.hid (below_over HB8.out hb9)
       have o9 := (hb9.block _ hl8).trans HO8.out
       rw [← HBB2.out]
       clear r0 r1 r2 r3 r4 r5 r6 hb9
       have r0 := Lib.cell_of_heap o9 0
       have r1 := Lib.cell_of_heap o9 1
       have r2 := Lib.cell_of_heap o9 2
       have r3 := Lib.cell_of_heap o9 3
       have r4 := Lib.cell_of_heap o9 4
       have r5 := Lib.cell_of_heap o9 5
       have r6 := Lib.cell_of_heap o9 6
       simp at r0 r1 r2 r3 r4 r5 r6
       clear o9
       have X5 := HR.out w9 HB9.out
       have HX5 := Lib.hid X5
       have FF := Lib.hid (FIN.out w9 (below_over HB3.out HB9.out))
       go_upto_region 15 with fail
       go_wp2_with (first | (((with_reducible refine wpList_putRow 30 (w.heap.size + 1 + 1) #[.int .i64 z.typ.kind, .string z.typ.pkg, .int .i64 z.typ.major, .string z.typ.mod, .string z.typ.name, .slice Bn z.typ.names.length cB, .slice Bs z.typ.subs.length dB] _ _ X5 ?_ ?_ ?_ ?_ ?_ ?_); exact tySize; rfl; exact tyOne; (focus (first | (go_simp; done) | rfl)); (focus (first | (go_simp; done) | rfl)))))
       exact ret_agg (fn := Tryz.f81) (vs := [.int .i64 z.typ.kind, .string z.typ.pkg, .int .i64 z.typ.major, .string z.typ.mod, .string z.typ.name, .slice Bn z.typ.names.length cB, .slice Bs z.typ.subs.length dB]) (b := w.heap.size + 1 + 1) rfl rfl rfl Tryz.underlying30 (by kernel_rfl) (cell7 (setRow_heap w9 (w.heap.size + 1 + 1) _ _ _ _ HX5.out)) rfl FF.out
   ·rw [decide_eq_false hs] at hq
    have NX : Hid (∀ y ∈ m.imps.take (i + 1), decide (y.asn = t.mod) = false) := Lib.hid (fun y hy => by
     rw [List.take_add_one, HX.out] at hy
     rcases List.mem_append.1 hy with h | h
     ·exact HNO.out y h
     ·simp at h; rw [h]; simpa using hs)
    clear hs
    go_wp2_with fail
    go_roundw
    case rel => exact ⟨i + 1, by omega, by go_num, NX, HB4⟩
    case measure => simp [intOf]; omega
  ·have HIA : Hid (impAt m t.mod = none) := Lib.hid (idx_no (fun x hx => HNO.out x (by rw [List.take_of_length_le (by rw [← HNI.out]; omega)]; exact hx)))
   have FIN := Lib.hid (th_zero (w := w) (wk := wo) (m := m) (env := env) (t := t) (there_no HIA.out) (below_over HB3.out HBo.out) hbl)
   have X5 := HR.out wo HBo.out
   have HX5 := Lib.hid X5
   go_upto_region 16 with fail
   go_wp2_with (first | (((with_reducible refine wpList_putRow 30 (w.heap.size + 1 + 1) #[.int .i64 0, .string ⟨#[]⟩, .int .i64 0, .string ⟨#[]⟩, .string ⟨#[]⟩, .slice none 0 0, .slice none 0 0] _ _ X5 ?_ ?_ ?_ ?_ ?_ ?_); exact tySize; rfl; exact tyOne; (focus (first | (go_simp; done) | rfl)); (focus (first | (go_simp; done) | rfl)))))
   exact ret_agg (fn := Tryz.f81) (vs := [.int .i64 0, .string ⟨#[]⟩, .int .i64 0, .string ⟨#[]⟩, .string ⟨#[]⟩, .slice none 0 0, .slice none 0 0]) (b := w.heap.size + 1 + 1) rfl rfl rfl Tryz.underlying30 (by kernel_rfl) (cell7 (setRow_heap wo (w.heap.size + 1 + 1) _ _ _ _ HX5.out)) rfl FIN.out
end Go.Proofs.YtkgmdbkcldojnaaGreatDoor

/-  -/
namespace Go.Proofs.YtkgmdbkcldojnaaGreatDoor
open Go Go.RowKit Go.Shelf
open Go.Sort Go.Maps
open M
def lacksN (m : Mo) (env : List If) (L : List Ty) : Bool := L.any fun x => !(decide (x.mod.size = 0)) && !(thereT m env x).isSome
set_option maxRecDepth 100000 in
set_option maxHeartbeats 16000000 in
theorem lacks_any (m : Mo) (l : List Value) (A : Option Addr) (c : Nat) (env : List If) (L : List Ty) (Al : Option Addr) (cl lo : Nat) (w : World) (h : MoAt w l m) (hE : RowIn ifR w A env) (hel : env.length ≤ 9223372036854775807) (h9 : ∀ x ∈ env, ∀ y ∈ x.types, many y.typ ≤ 9000) (hL : OwnL w lo (.slice Al L.length cl) L) (hLl : L.length ≤ 1000000) :
  Calls Tryz.prog 42 #[.agg l.toArray, .slice A env.length c, .slice Al L.length cl] w fun e w' => e = .returned (.bool (lacksN m env L)) ∧ Below w.heap.size w w' := by
 have HV := Lib.hid h
 have HE := Lib.hid hE
 have HL := Lib.hid hL
 have TC := Lib.hid (fun x l7 w' (hb : Below w.heap.size w w') (hs : ShL l7 x) => there_any m l A c env x l7 w' (h.below hb) (hE.below hb) hel hs h9)
 obtain ⟨Ai, ci, Ad, cd, rfl, -, -, -, -, -⟩ := h
 obtain ⟨n, hn⟩ : ∃ n, n = L.length := ⟨_, rfl⟩
 have HN := Lib.hid hn
 obtain ⟨w0, hw0⟩ : ∃ w0, w0 = w.alloc (.cells #[.string m.name, .slice Ai m.imps.length ci, .slice Ad m.decs.length cd] 25) := ⟨_, rfl⟩
 have B0 : Below w.heap.size w w0 := by rw [hw0]; exact below_new (Below.refl _ _) _
 have O0 : w0.heap[w.heap.size]? = some (.cells #[.string m.name, .slice Ai m.imps.length ci, .slice Ad m.decs.length cd] 25 (0, 0)) := by rw [hw0]; exact heap_alloc_new w _
 have hl0 : w.heap.size < w0.heap.size := by rw [hw0]; simp
 have HB0 := Lib.hid B0
 have HO0 := Lib.hid O0
 have HW0 := Lib.hid hw0
 rw [← hn] at hLl ⊢
 clear hE hL h9 hw0 B0 O0 hn HV
 go_enter Tryz.func42, Tryz.ntmps42
 go_upto_region 1 with fail
 rw [← HW0.out]
 clear HW0
 go_wp2_with fail
 go_loopw [7] (fun s7 wr => ∃ k : Nat, k ≤ n ∧ s7 = .int .i64 k ∧ Hid (lacksN m env (L.take k) = false) ∧ Hid (Below w0.heap.size w0 wr)) (fun s7 _ => n - (intOf s7).toNat)
 case atStart => exact ⟨0, by omega, rfl, Lib.hid (by simp [lacksN]), Lib.hid (Below.refl _ _)⟩
 case round =>
  obtain ⟨k, hk, rfl, HNO, HBo⟩ := hrel
  obtain ⟨wo, rfl⟩ : ∃ wo : World, wo = wr := ⟨_, rfl⟩
  have HBw : Hid (Below w.heap.size w wo) := Lib.hid (below_over HB0.out HBo.out)
  by_cases hlt : k < n
  ·obtain ⟨x, hx⟩ : ∃ x, L[k]? = some x := ⟨_, List.getElem?_eq_getElem (by rw [← HN.out]; exact hlt)⟩
   obtain ⟨gx, Cn, cC, Cs, dC, rfl, -, hgx, hc⟩ := HL.out.get hx
   have e := fun j v hv => (HBw.out.cell (p := ⟨gx, k * 7 + j, none⟩) hgx).trans (hc j v hv)
   have e3 : wo.cell? ⟨gx, k * 7 + 3, none⟩ = some (.string x.mod) := e 3 _ rfl
   have hgo := Nat.lt_of_lt_of_le hgx HBw.out.size
   have hk0 : (0 : Int) ≤ k := by omega
   have hk1 : (k : Int) < n := by omega
   have STEP : Hid (lacksN m env (L.take (k + 1)) = (!(decide (x.mod.size = 0)) && !(thereT m env x).isSome)) := Lib.hid (by
    have h1 : lacksN m env (L.take (k + 1)) = (lacksN m env (L.take k) || (!(decide (x.mod.size = 0)) && !(thereT m env x).isSome)) := any_snoc _ _ _ _ hx
    rw [h1, HNO.out, Bool.false_or])
   have HXX := Lib.hid hx
   by_cases hz : x.mod.size = 0
   ·obtain ⟨z1, z2⟩ := empty_facts _ hz
    have NX : Hid (lacksN m env (L.take (k + 1)) = false) := Lib.hid (by rw [STEP.out, decide_eq_true hz]; rfl)
    clear hz hx hc e
    go_wp2_with fail
    go_roundw
    case rel => exact ⟨k + 1, by omega, by go_num, NX, HBo⟩
    case measure => simp [intOf]; omega
   ·obtain ⟨z1, z2⟩ := full_facts _ hz
    obtain ⟨q, hq⟩ : ∃ q, q = (thereT m env x).isSome := ⟨_, rfl⟩
    have NX : Hid (lacksN m env (L.take (k + 1)) = !q) := Lib.hid (by rw [STEP.out, decide_eq_false hz, hq]; rfl)
    have HQ := Lib.hid hq
    have X := (HBo.out.block _ hl0).trans HO0.out
    have hwo := Nat.lt_of_lt_of_le hl0 HBo.out.size
    have KEEP : Hid (∀ wx : World, Below wo.heap.size wo wx → (wx.cell? ⟨w.heap.size, 0, none⟩ = some (.string m.name) ∧ wx.cell? ⟨w.heap.size, 1, none⟩ = some (.slice Ai m.imps.length ci) ∧ wx.cell? ⟨w.heap.size, 2, none⟩ = some (.slice Ad m.decs.length cd)) ∧ wx.cell? ⟨gx, k * 7, none⟩ = some (.int .i64 x.kind) ∧ wx.cell? ⟨gx, k * 7 + 1, none⟩ = some (.string x.pkg) ∧ wx.cell? ⟨gx, k * 7 + 2, none⟩ = some (.int .i64 x.major) ∧ wx.cell? ⟨gx, k * 7 + 3, none⟩ = some (.string x.mod) ∧ wx.cell? ⟨gx, k * 7 + 4, none⟩ = some (.string x.name) ∧ wx.cell? ⟨gx, k * 7 + 5, none⟩ = some (.slice Cn x.names.length cC) ∧ wx.cell? ⟨gx, k * 7 + 6, none⟩ = some (.slice Cs x.subs.length dC)) := Lib.hid (fun wx hb =>
     have X' := (hb.block _ hwo).trans X
     ⟨⟨Lib.cell_of_heap X' 0, Lib.cell_of_heap X' 1, Lib.cell_of_heap X' 2⟩, (hb.cell (p := ⟨gx, _, none⟩) hgo).trans (e 0 _ rfl), (hb.cell (p := ⟨gx, _, none⟩) hgo).trans (e 1 _ rfl), (hb.cell (p := ⟨gx, _, none⟩) hgo).trans (e 2 _ rfl), (hb.cell (p := ⟨gx, _, none⟩) hgo).trans (e 3 _ rfl), (hb.cell (p := ⟨gx, _, none⟩) hgo).trans (e 4 _ rfl), (hb.cell (p := ⟨gx, _, none⟩) hgo).trans (e 5 _ rfl), (hb.cell (p := ⟨gx, _, none⟩) hgo).trans (e 6 _ rfl)⟩)
    have CT := Lib.hid (fun w' (hb : Below wo.heap.size wo w') => TC.out x [.int .i64 x.kind, .string x.pkg, .int .i64 x.major, .string x.mod, .string x.name, .slice Cn x.names.length cC, .slice Cs x.subs.length dC] w' (below_over HBw.out hb) ⟨Cn, cC, Cs, dC, rfl⟩)
    clear hz hx hc e X hq STEP
    go_upto_region 5 with fail
    clear z1 z2 e3
    go_cut [8, 9] (fun s8 s9 wx => s9 = .bool q ∧ Below wo.heap.size wo wx)
    case first =>
     have hH0 := KEEP.out wo.drew (Below.drew (Below.refl _ _))
     refine AnyX.start (fun wx => (wx.cell? ⟨w.heap.size, 0, none⟩ = some (.string m.name) ∧ wx.cell? ⟨w.heap.size, 1, none⟩ = some (.slice Ai m.imps.length ci) ∧ wx.cell? ⟨w.heap.size, 2, none⟩ = some (.slice Ad m.decs.length cd)) ∧ wx.cell? ⟨gx, k * 7, none⟩ = some (.int .i64 x.kind) ∧ wx.cell? ⟨gx, k * 7 + 1, none⟩ = some (.string x.pkg) ∧ wx.cell? ⟨gx, k * 7 + 2, none⟩ = some (.int .i64 x.major) ∧ wx.cell? ⟨gx, k * 7 + 3, none⟩ = some (.string x.mod) ∧ wx.cell? ⟨gx, k * 7 + 4, none⟩ = some (.string x.name) ∧ wx.cell? ⟨gx, k * 7 + 5, none⟩ = some (.slice Cn x.names.length cC) ∧ wx.cell? ⟨gx, k * 7 + 6, none⟩ = some (.slice Cs x.subs.length dC)) (fun k => [6, 11].contains k) (by kernel_rfl) ?_
     refine AnyX.take (i := 0) (v := ?_) rfl (by kernel_rfl) (by kernel_rfl) (by kernel_rfl) (by kernel_rfl) (by kernel_rfl) (fun _ _ _ h => h) hH0 (Or.inl ⟨by rfl, ?_⟩) ?_
     rotate_left
     ·(intro wS hS; (try obtain ⟨⟨m0, m1, m2⟩, c0, c1, c2, c3, c4, c5, c6⟩ := hS); go_simp; try with_reducible rfl)
     simp only [List.getElem_toArray, List.getElem_cons_succ, List.getElem_cons_zero]
     simp only [Act.put, List.setIfInBounds_toArray]
     simp only [List.set_cons_zero, List.set_cons_succ]
     refine AnyX.move (i := 1) (v := ?_) rfl (by kernel_rfl) (by kernel_rfl) (by kernel_rfl) (by kernel_rfl) (fun _ _ _ h => h) (Or.inl ⟨by rfl, ?_⟩) ?_
     rotate_left
     ·(intro wS _; go_simp; try with_reducible rfl)
     simp only [List.getElem_toArray, List.getElem_cons_succ, List.getElem_cons_zero]
     simp only [Act.put, List.setIfInBounds_toArray]
     simp only [List.set_cons_zero, List.set_cons_succ]
     refine AnyX.move (i := 2) (v := ?_) rfl (by kernel_rfl) (by kernel_rfl) (by kernel_rfl) (by kernel_rfl) (fun _ _ _ h => h) (Or.inl ⟨by rfl, ?_⟩) ?_
     rotate_left
     ·(intro wS _; go_simp; try with_reducible rfl)
     simp only [List.getElem_toArray, List.getElem_cons_succ, List.getElem_cons_zero]
     simp only [Act.put, List.setIfInBounds_toArray]
     simp only [List.set_cons_zero, List.set_cons_succ]
     refine AnyX.move (i := 3) (v := ?_) rfl (by kernel_rfl) (by kernel_rfl) (by kernel_rfl) (by kernel_rfl) (fun _ _ _ h => h) (Or.inl ⟨by rfl, ?_⟩) ?_
     rotate_left
     ·(intro wS _; go_simp; try with_reducible rfl)
     simp only [List.getElem_toArray, List.getElem_cons_succ, List.getElem_cons_zero]
     simp only [Act.put, List.setIfInBounds_toArray]
     simp only [List.set_cons_zero, List.set_cons_succ]
     refine AnyX.move (i := 4) (v := ?_) rfl (by kernel_rfl) (by kernel_rfl) (by kernel_rfl) (by kernel_rfl) (fun _ _ _ h => h) (Or.inl ⟨by rfl, ?_⟩) ?_
     rotate_left
     ·(intro wS _; go_simp; try with_reducible rfl)
     simp only [List.getElem_toArray, List.getElem_cons_succ, List.getElem_cons_zero]
     simp only [Act.put, List.setIfInBounds_toArray]
     simp only [List.set_cons_zero, List.set_cons_succ]
     refine AnyX.take (i := 5) (v := ?_) rfl (by kernel_rfl) (by kernel_rfl) (by kernel_rfl) (by kernel_rfl) (by kernel_rfl) (fun _ _ _ h => h) hH0 (Or.inl ⟨by rfl, ?_⟩) ?_
     rotate_left
     ·(intro wS hS; (try obtain ⟨⟨m0, m1, m2⟩, c0, c1, c2, c3, c4, c5, c6⟩ := hS); go_simp; try with_reducible rfl)
     simp only [List.getElem_toArray, List.getElem_cons_succ, List.getElem_cons_zero]
     simp only [Act.put, List.setIfInBounds_toArray]
     simp only [List.set_cons_zero, List.set_cons_succ]
     refine AnyX.go2 6 10 (by kernel_rfl) rfl rfl rfl rfl (fun K hK => ?_) (fun K hK => ?_)
     ·simp only [List.getElem_toArray, List.getElem_cons_succ, List.getElem_cons_zero]
      go_simp
      refine (CT.out wo.drew (Below.drew (Below.refl _ _))).mono ?_
      rintro e w2 ⟨l7, s, b, rfl, hT, hbq, -, hb2⟩
      obtain ⟨Dn, dN, Ds, dS, rfl, -⟩ := hT.parts
      have hbq' : b = q := by rw [hbq, HQ.out]
      clear hbq
      subst hbq'
      simp only []
      refine hK.out _ _ (fun hoff _ => absurd hoff (by decide)) ?_
      clear hK
      try simp only [Act.put, List.setIfInBounds_toArray]
      try simp only [List.set_cons_zero, List.set_cons_succ]
      refine AnyX.move (i := 7) (v := ?_) rfl (by kernel_rfl) (by kernel_rfl) (by kernel_rfl) (by kernel_rfl) (fun _ _ _ h => h) (Or.inl ⟨by rfl, ?_⟩) ?_
      rotate_left
      ·(intro wS _; go_simp; try with_reducible rfl)
      simp only [List.getElem_toArray, List.getElem_cons_succ, List.getElem_cons_zero]
      simp only [Act.put, List.setIfInBounds_toArray]
      simp only [List.set_cons_zero, List.set_cons_succ]
      refine AnyX.move (i := 8) (v := ?_) rfl (by kernel_rfl) (by kernel_rfl) (by kernel_rfl) (by kernel_rfl) (fun _ _ _ h => h) (Or.inl ⟨by rfl, ?_⟩) ?_
      rotate_left
      ·(intro wS _; go_simp; try with_reducible rfl)
      simp only [List.getElem_toArray, List.getElem_cons_succ, List.getElem_cons_zero]
      simp only [Act.put, List.setIfInBounds_toArray]
      simp only [List.set_cons_zero, List.set_cons_succ]
      refine AnyX.move (i := 9) (v := ?_) rfl (by kernel_rfl) (by kernel_rfl) (by kernel_rfl) (by kernel_rfl) (fun _ _ _ h => h) (Or.inl ⟨by rfl, ?_⟩) ?_
      rotate_left
      ·(intro wS _; go_simp; try with_reducible rfl)
      simp only [List.getElem_toArray, List.getElem_cons_succ, List.getElem_cons_zero]
      simp only [Act.put, List.setIfInBounds_toArray]
      simp only [List.set_cons_zero, List.set_cons_succ]
      refine AnyX.go 10 (by kernel_rfl) rfl rfl (fun K hK => ?_)
      simp only [List.getElem_toArray, List.getElem_cons_succ, List.getElem_cons_zero]
      go_simp
      refine hK.out _ _ (fun _ hS => by obtain ⟨⟨m0, m1, m2⟩, c0, c1, c2, c3, c4, c5, c6⟩ := hS; exact ⟨⟨cell_alloc m0, cell_alloc m1, cell_alloc m2⟩, cell_alloc c0, cell_alloc c1, cell_alloc c2, cell_alloc c3, cell_alloc c4, cell_alloc c5, cell_alloc c6⟩) ?_
      clear hK
      try simp only [Act.put, List.setIfInBounds_toArray]
      try simp only [List.set_cons_zero, List.set_cons_succ]
      refine AnyX.go 11 (by kernel_rfl) rfl rfl (fun K hK => ?_)
      simp only [List.getElem_toArray, List.getElem_cons_succ, List.getElem_cons_zero]
      refine wp_store_row 30 (.tmp 8) (.tmp 30) rfl w2.heap.size #[.int .i64 s.kind, .string s.pkg, .int .i64 s.major, .string s.mod, .string s.name, .slice Dn s.names.length dN, .slice Ds s.subs.length dS] rfl rfl _ _ (heap_alloc_new w2 _) tySize rfl tyOne ?_
      refine hK.out _ _ (fun hoff _ => absurd hoff (by decide)) ?_
      clear hK
      try simp only [Act.put, List.setIfInBounds_toArray]
      try simp only [List.set_cons_zero, List.set_cons_succ]
      refine AnyX.move (i := 12) (v := ?_) rfl (by kernel_rfl) (by kernel_rfl) (by kernel_rfl) (by kernel_rfl) (fun _ _ _ h => h) (Or.inl ⟨by rfl, ?_⟩) ?_
      rotate_left
      ·(intro wS _; go_simp; try with_reducible rfl)
      simp only [List.getElem_toArray, List.getElem_cons_succ, List.getElem_cons_zero]
      simp only [Act.put, List.setIfInBounds_toArray]
      simp only [List.set_cons_zero, List.set_cons_succ]
      refine AnyX.done (by kernel_rfl) ?_ _
      go_wp2_with fail
      go_meet
      have hb2' : Below wo.heap.size wo w2 := Below.trans (Below.drew (Below.refl wo.heap.size wo)) hb2
      exact ⟨rfl, setRow_below (below_new hb2' _) hb2'.size _⟩
     ·simp only [List.getElem_toArray, List.getElem_cons_succ, List.getElem_cons_zero]
      go_simp
      refine hK.out _ _ (fun _ hS => by obtain ⟨⟨m0, m1, m2⟩, c0, c1, c2, c3, c4, c5, c6⟩ := hS; exact ⟨⟨cell_alloc m0, cell_alloc m1, cell_alloc m2⟩, cell_alloc c0, cell_alloc c1, cell_alloc c2, cell_alloc c3, cell_alloc c4, cell_alloc c5, cell_alloc c6⟩) ?_
      clear hK
      try simp only [Act.put, List.setIfInBounds_toArray]
      try simp only [List.set_cons_zero, List.set_cons_succ]
      obtain ⟨wa, hwa⟩ : ∃ wa, wa = (wo.alloc (.cells #[.int .i64 0, .string ⟨#[]⟩, .int .i64 0, .string ⟨#[]⟩, .string ⟨#[]⟩, .slice none 0 0, .slice none 0 0] 30)).drew := ⟨_, rfl⟩
      have Ba : Below wo.heap.size wo wa := by rw [hwa]; exact Below.drew (below_new (Below.refl _ _) _)
      have Xa : wa.heap[wo.heap.size]? = some (.cells #[.int .i64 0, .string ⟨#[]⟩, .int .i64 0, .string ⟨#[]⟩, .string ⟨#[]⟩, .slice none 0 0, .slice none 0 0] 30 (0, 0)) := by rw [hwa]; exact heap_alloc_new wo _
      have sa : wo.heap.size < wa.heap.size := by rw [hwa]; simp
      rw [← hwa]
      clear hwa
      refine AnyX.go 6 (by kernel_rfl) rfl rfl (fun K hK => ?_)
      simp only [List.getElem_toArray, List.getElem_cons_succ, List.getElem_cons_zero]
      go_simp
      refine (CT.out wa Ba).mono ?_
      rintro e w2 ⟨l7, s, b, rfl, hT, hbq, -, hb2⟩
      obtain ⟨Dn, dN, Ds, dS, rfl, -⟩ := hT.parts
      have hbq' : b = q := by rw [hbq, HQ.out]
      clear hbq
      subst hbq'
      have X2 := (hb2.block _ sa).trans Xa
      simp only []
      refine hK.out _ _ (fun hoff _ => absurd hoff (by decide)) ?_
      clear hK
      try simp only [Act.put, List.setIfInBounds_toArray]
      try simp only [List.set_cons_zero, List.set_cons_succ]
      refine AnyX.move (i := 7) (v := ?_) rfl (by kernel_rfl) (by kernel_rfl) (by kernel_rfl) (by kernel_rfl) (fun _ _ _ h => h) (Or.inl ⟨by rfl, ?_⟩) ?_
      rotate_left
      ·(intro wS _; go_simp; try with_reducible rfl)
      simp only [List.getElem_toArray, List.getElem_cons_succ, List.getElem_cons_zero]
      simp only [Act.put, List.setIfInBounds_toArray]
      simp only [List.set_cons_zero, List.set_cons_succ]
      refine AnyX.move (i := 8) (v := ?_) rfl (by kernel_rfl) (by kernel_rfl) (by kernel_rfl) (by kernel_rfl) (fun _ _ _ h => h) (Or.inl ⟨by rfl, ?_⟩) ?_
      rotate_left
      ·(intro wS _; go_simp; try with_reducible rfl)
      simp only [List.getElem_toArray, List.getElem_cons_succ, List.getElem_cons_zero]
      simp only [Act.put, List.setIfInBounds_toArray]
      simp only [List.set_cons_zero, List.set_cons_succ]
      refine AnyX.move (i := 9) (v := ?_) rfl (by kernel_rfl) (by kernel_rfl) (by kernel_rfl) (by kernel_rfl) (fun _ _ _ h => h) (Or.inl ⟨by rfl, ?_⟩) ?_
      rotate_left
      ·(intro wS _; go_simp; try with_reducible rfl)
      simp only [List.getElem_toArray, List.getElem_cons_succ, List.getElem_cons_zero]
      simp only [Act.put, List.setIfInBounds_toArray]
      simp only [List.set_cons_zero, List.set_cons_succ]
      refine AnyX.go 11 (by kernel_rfl) rfl rfl (fun K hK => ?_)
      simp only [List.getElem_toArray, List.getElem_cons_succ, List.getElem_cons_zero]
      refine wp_store_row 30 (.tmp 8) (.tmp 30) rfl wo.heap.size #[.int .i64 s.kind, .string s.pkg, .int .i64 s.major, .string s.mod, .string s.name, .slice Dn s.names.length dN, .slice Ds s.subs.length dS] rfl rfl _ _ X2 tySize rfl tyOne ?_
      refine hK.out _ _ (fun hoff _ => absurd hoff (by decide)) ?_
      clear hK
      try simp only [Act.put, List.setIfInBounds_toArray]
      try simp only [List.set_cons_zero, List.set_cons_succ]
      refine AnyX.move (i := 12) (v := ?_) rfl (by kernel_rfl) (by kernel_rfl) (by kernel_rfl) (by kernel_rfl) (fun _ _ _ h => h) (Or.inl ⟨by rfl, ?_⟩) ?_
      rotate_left
      ·(intro wS _; go_simp; try with_reducible rfl)
      simp only [List.getElem_toArray, List.getElem_cons_succ, List.getElem_cons_zero]
      simp only [Act.put, List.setIfInBounds_toArray]
      simp only [List.set_cons_zero, List.set_cons_succ]
      refine AnyX.done (by kernel_rfl) ?_ _
      go_wp2_with fail
      go_meet
      exact ⟨rfl, setRow_below (below_over Ba hb2) (Nat.le_refl _) _⟩
    case rest =>
     obtain ⟨rfl, hbc⟩ := hcut
     obtain ⟨wy, rfl⟩ : ∃ wy : World, wy = wc := ⟨_, rfl⟩
     have HBy : Hid (Below w0.heap.size w0 wy) := Lib.hid (below_over HBo.out hbc)
     clear hbc
     cases q with
     | true =>
      go_wp2_with fail
      go_roundw
      case rel => exact ⟨k + 1, by omega, by go_num, NX, HBy⟩
      case measure => simp [intOf]; omega
     | false =>
      have RES : Hid (lacksN m env L = true) := Lib.hid (by
       have h1 := NX.out
       unfold lacksN at h1 ⊢
       rw [Bool.not_false, List.any_eq_true] at h1
       rw [List.any_eq_true]
       obtain ⟨y, hy, hp⟩ := h1
       exact ⟨y, List.mem_of_mem_take hy, hp⟩)
      go_wp2_with fail
      go_ret
      exact ⟨by rw [RES.out]; try rfl, below_over HB0.out HBy.out⟩
  ·have RES : Hid (lacksN m env L = false) := Lib.hid (by have := HNO.out; rwa [List.take_of_length_le (by rw [← HN.out]; omega)] at this)
   go_wp2_with fail
   go_ret
   exact ⟨by rw [RES.out]; try rfl, HBw.out⟩
end Go.Proofs.YtkgmdbkcldojnaaGreatDoor

/-  -/
namespace Go.Proofs.YtkgmdbkcldojnaaGreatDoor
open Go Go.RowKit Go.Shelf
open Go.Sort Go.Maps
open M
def tR : Reads Ty := ⟨7, 30, TyAt, fun _ _ _ _ _ _ h hz hb => h.move hz hb, fun _ _ _ _ h hb => h.keep hb, fun _ _ _ _ h => h.free, fun _ _ _ h => h.len⟩
def stE (_ : World) (l : List Value) (s : ByteArray) : Prop := l = [.string s] ∧ s.size ≤ 9223372036854775807
def stR : Reads ByteArray := ⟨1, 9, stE, fun _ _ _ _ _ _ h _ _ => h, fun _ _ _ _ h _ => h, fun _ _ _ _ h => h, fun _ l x h => by rw [h.1]; rfl⟩
theorem SubsAt.row {w : World} {A : Option Addr} {l : List Ty} (h : SubsAt w A l) : RowIn tR w A l := fun i t ht => by
  obtain ⟨g, o, v0, v1, v2, v3, v4, v5, v6, hA, hg, h0, h1, h2, h3, h4, h5, h6, hT⟩ := h i t ht
  refine ⟨g, o, [v0, v1, v2, v3, v4, v5, v6], hA, hg, fun j v hv => ?_, hT⟩
  have hj := (List.getElem?_eq_some_iff.1 hv).1
  simp at hj
  match j, hv with
  | 0, hv => simp at hv; subst hv; exact h0
  | 1, hv => simp at hv; subst hv; exact h1
  | 2, hv => simp at hv; subst hv; exact h2
  | 3, hv => simp at hv; subst hv; exact h3
  | 4, hv => simp at hv; subst hv; exact h4
  | 5, hv => simp at hv; subst hv; exact h5
  | 6, hv => simp at hv; subst hv; exact h6
  | j + 7, _ => omega
theorem NamesAt.row {w : World} {A : Option Addr} {l : List ByteArray} (h : NamesAt w A l) : RowIn stR w A l := fun i s hs => by
  obtain ⟨g, o, hA, hg, hc, hz⟩ := h i s hs
  refine ⟨g, o, [.string s], hA, hg, fun j v hv => ?_, rfl, hz⟩
  cases j with
  | zero =>
    simp at hv; subst hv
    show w.cell? ⟨g, o + i * 1 + 0, none⟩ = _
    rw [show o + i * 1 + 0 = o + i by omega]; exact hc
  | succ j => simp at hv
theorem RowIn.names {w : World} {A : Option Addr} {l : List ByteArray} (h : RowIn stR w A l) : NamesAt w A l := fun i s hs => by
  obtain ⟨g, o, l, hA, hg, hc, rfl, hz⟩ := h i s hs
  refine ⟨g, o, hA, hg, ?_, hz⟩
  have := hc 0 _ rfl
  rw [show o + i * stR.k + 0 = o + i by show o + i * 1 + 0 = o + i; omega] at this
  exact this
theorem RowIn.none_nil {α : Type} {R : Reads α} {w : World} {xs : List α} (h : RowIn R w none xs) : xs = [] := by
  cases xs with
  | nil => rfl
  | cons x r => obtain ⟨g, o, l, e, -⟩ := h 0 x rfl; cases e
theorem ty_made {w : World} {t : Ty} {An As : Option Addr} {cn cs : Nat} (hp : t.pkg.size ≤ 9223372036854775807) (hm : t.mod.size ≤ 9223372036854775807) (hn : t.name.size ≤ 9223372036854775807) (hln : t.names.length ≤ 9223372036854775807) (hls : t.subs.length ≤ 9223372036854775807) (hcs : t.subs.length ≤ cs)
    (hN : NamesAt w An t.names) (hS : RowIn tR w As t.subs) : TyAt w [.int .i64 t.kind, .string t.pkg, .int .i64 t.major, .string t.mod, .string t.name, .slice An t.names.length cn, .slice As t.subs.length cs] t := by
  have hall : ∀ i : Nat, ∃ l : List Value, l.length = 7 ∧ ∀ s, t.subs[i]? = some s → TyAt w l s ∧ ∃ g o, As = some ⟨g, o, none⟩ ∧ g < w.heap.size ∧ ∀ j v, l[j]? = some v → w.cell? ⟨g, o + i * 7 + j, none⟩ = some v := fun i => by
    cases hs : t.subs[i]? with
    | none => exact ⟨[.int .i64 0, .string ⟨#[]⟩, .int .i64 0, .string ⟨#[]⟩, .string ⟨#[]⟩, .slice none 0 0, .slice none 0 0], rfl, fun s h => by cases h⟩
    | some s =>
      obtain ⟨g, o, l, hA, hg, hc, hE⟩ := hS i s hs
      refine ⟨l, hE.len, fun s' h => ?_⟩
      cases h
      exact ⟨hE, g, o, hA, hg, hc⟩
  obtain ⟨C, hC⟩ := Classical.axiomOfChoice hall
  have hd : t = .mk t.kind t.pkg t.major t.mod t.name t.names t.subs := by cases t; rfl
  rw [show TyAt w [.int .i64 t.kind, .string t.pkg, .int .i64 t.major, .string t.mod, .string t.name, .slice An t.names.length cn, .slice As t.subs.length cs] t = TyAt w [.int .i64 t.kind, .string t.pkg, .int .i64 t.major, .string t.mod, .string t.name, .slice An t.names.length cn, .slice As t.subs.length cs] (.mk t.kind t.pkg t.major t.mod t.name t.names t.subs) by rw [← hd]]
  exact .mk t.kind t.pkg t.major t.mod t.name t.names t.subs An cn As cs C hp hm hn hln hls hcs hN (fun i => (hC i).1) (fun i s hs => ((hC i).2 s hs).2) (fun i s hs => ((hC i).2 s hs).1)
structure Fill {α : Type} (R : Reads α) (lo g : Nat) (xs : List α) (j : Nat) (w : World) : Prop where
  hlo : lo ≤ g
  hg : g < w.heap.size
  there : w.there g 0 (xs.length * R.k)
  rows : ∀ i x, i < j → xs[i]? = some x → ∃ l : List Value, (∀ q v, l[q]? = some v → w.cell? ⟨g, i * R.k + q, none⟩ = some v) ∧ R.E (strike (fun b => b < lo ∨ b = g) w) l x
theorem Fill.start {α : Type} (R : Reads α) {lo : Nat} {w : World} (hlo : lo ≤ w.heap.size) (cells : Array Value) (T : TypeId) (xs : List α) (hs : cells.size = xs.length * R.k) : Fill R lo w.heap.size xs 0 (w.alloc (.cells cells T)) := by
  have hb : (w.alloc (.cells cells T)).heap[w.heap.size]? = some (.cells cells T (0, 0)) := heap_alloc_new w _
  refine ⟨hlo, by simp, fun j hj => ⟨?_, ?_⟩, fun i x hi => by omega⟩
  · rw [Lib.cell_of_heap hb, Nat.zero_add, Array.getElem?_eq_getElem (by omega)]; rfl
  · exact Lib.frozen_of_heap hb _
theorem Fill.keep {α : Type} {R : Reads α} {lo g j : Nat} {xs : List α} {w w' : World} (h : Fill R lo g xs j w) (hz : w.heap.size ≤ w'.heap.size) (hb : ∀ b, lo ≤ b → b < w.heap.size → w'.heap[b]? = w.heap[b]?) : Fill R lo g xs j w' := by
  have eg := hb g h.hlo h.hg
  refine ⟨h.hlo, Nat.lt_of_lt_of_le h.hg hz, fun q hq => ?_, fun i x hi hx => ?_⟩
  · have := h.there q hq
    rw [World.cell?_of_block (w := w) (w' := w') (a := ⟨g, 0 + q, none⟩) eg]
    refine ⟨this.1, ?_⟩
    have e2 : w'.frozen? ⟨g, 0 + q, none⟩ = w.frozen? ⟨g, 0 + q, none⟩ := by simp only [World.frozen?]; rw [eg]
    rw [e2]; exact this.2
  · obtain ⟨l, hc, hE⟩ := h.rows i x hi hx
    exact ⟨l, fun q v hv => (World.cell?_of_block (w := w) (w' := w') (a := ⟨g, _, none⟩) eg).trans (hc q v hv), R.move _ _ _ _ _ _ hE hz fun b hlt hS => ⟨hS, hb b (by
      rcases Nat.lt_or_ge b lo with c | c
      · exact absurd (.inl c) hS
      · exact c) hlt⟩⟩
theorem Fill.at {α : Type} {R : Reads α} {lo g j m : Nat} {xs : List α} {w : World} (h : Fill R lo g xs j w) (hj : j < xs.length) (hm : m = R.k) : w.there g (j * R.k) m := fun q hq => by
  have h1 : (j + 1) * R.k ≤ xs.length * R.k := Nat.mul_le_mul_right _ hj
  rw [Nat.succ_mul] at h1
  have := h.there (j * R.k + q) (by omega)
  rw [Nat.zero_add] at this
  exact this
theorem Fill.put {α : Type} {R : Reads α} {lo g j B : Nat} {xs : List α} {w : World} {l : List Value} {x : α} (h : Fill R lo g xs j w) (hx : xs[j]? = some x) (hE : R.E (strike (· < B) w) l x) (hB : g < B) : Fill R lo g xs (j + 1) (w.setCells g (j * R.k) l) := by
  have hlen := R.len _ _ _ hE
  have hj := (List.getElem?_eq_some_iff.1 hx).1
  have hat := h.at hj hlen
  have ot : ∀ b, b < w.heap.size → b ≠ g → (w.setCells g (j * R.k) l).heap[b]? = w.heap[b]? := fun b hb hne => World.heap_setCells_other w g (j * R.k) l hb hne
  have hsz : (w.setCells g (j * R.k) l).heap.size = w.heap.size := size_setCells g l _ w
  refine ⟨h.hlo, by rw [hsz]; exact h.hg, World.there_setCells h.there _ _ _, fun i y hi hy => ?_⟩
  rcases Nat.lt_or_ge i j with c | c
  · obtain ⟨l', hc, hE'⟩ := h.rows i y c hy
    have hl' := R.len _ _ _ hE'
    refine ⟨l', fun q v hv => ?_, R.move _ _ _ _ _ _ hE' (by rw [hsz]; exact Nat.le_refl _) fun b hb hS => ⟨hS, ot b hb fun e => hS (.inr e)⟩⟩
    have hq := (List.getElem?_eq_some_iff.1 hv).1
    rw [World.cell?_setCells_out]
    · exact hc q v hv
    · intro _ _
      have h1 : (i + 1) * R.k ≤ j * R.k := Nat.mul_le_mul_right _ c
      rw [Nat.succ_mul] at h1
      exact .inl (by show i * R.k + q < j * R.k; omega)
  · obtain rfl : i = j := by omega
    rw [hx] at hy
    cases hy
    refine ⟨l, fun q v hv => ?_, R.move _ _ _ _ _ _ hE (by rw [hsz]; exact Nat.le_refl _) fun b hb hS => ⟨?_, ot b hb (by omega)⟩⟩
    · have hq := (List.getElem?_eq_some_iff.1 hv).1
      rw [World.cell?_setCells_in g l (i * R.k) w (fun q hq => (hat q hq).1) q hq]
      rw [← hv, List.getElem?_eq_getElem hq]
    · have := h.hlo
      omega
theorem Fill.done {α : Type} {R : Reads α} {lo g j m : Nat} {xs : List α} {w : World} (h : Fill R lo g xs j w) (hj : xs.length ≤ j) (hm : m ≤ lo) : RowIn R (strike (· < m) w) (some ⟨g, 0, none⟩) xs := fun i x hx => by
  have hi := (List.getElem?_eq_some_iff.1 hx).1
  obtain ⟨l, hc, hE⟩ := h.rows i x (by omega) hx
  have := h.hlo
  refine ⟨g, 0, l, rfl, by rw [strike_size]; exact h.hg, fun q v hv => strike_cell.2 ⟨by omega, ?_⟩, R.move _ _ _ _ _ _ hE (Nat.le_refl _) fun b _ hS => ⟨fun e => hS (.inl (by omega)), rfl⟩⟩
  rw [Nat.zero_add]; exact hc q v hv
theorem setCells_below {n : Nat} {w w' : World} (h : Below n w w') {g : Nat} (hg : n ≤ g) (o : Nat) (l : List Value) : Below n w (w'.setCells g o l) :=
  h.trans ⟨World.os_setCells _ _ _ _, by
    induction l generalizing o w' with
    | nil => rfl
    | cons v r ih => exact (ih (h.setCell hg v) (o + 1)).trans rfl, World.output_setCells _ _ _ _, by rw [size_setCells]; exact Nat.le_refl _, fun b hb => by
    rcases Nat.lt_or_ge b w'.heap.size with c | c
    · exact World.heap_setCells_other w' g o l c (by omega)
    · rw [Array.getElem?_eq_none c, Array.getElem?_eq_none (by rw [size_setCells]; exact c)]⟩
theorem cln_any (s : ByteArray) (w : World) (hs : s.size ≤ 281474976710656) : Calls Tryz.prog 59 #[.string s] w fun e w' => e = .returned (.string s) ∧ Below w.heap.size w w' := by
  go_enter Tryz.func59, Tryz.ntmps59
  go_wp2_with fail
  refine (Tryz.stringslite_Clone _ _ hs).mono ?_; rintro e w1 ⟨rfl, hb1⟩
  go_wp2_with fail
  go_ret
  exact ⟨rfl, hb1⟩
set_option maxRecDepth 100000 in
set_option maxHeartbeats 4000000 in
theorem listS_any (w0 w : World) (A : Option Addr) (n c : Nat) (xs : List ByteArray) (hn : xs.length = n) (hz : n ≤ 1000000) (hS : NamesAt w0 A xs) (hw : Below w0.heap.size w0 w) (hsz : ∀ s ∈ xs, s.size ≤ 281474976710656) :
    Calls Tryz.prog 98 #[.slice A n c, .func (.func 59) #[] #[]] w fun e w' => ∃ (A' : Option Addr) (c' : Nat), e = .returned (.slice A' n c') ∧ NamesAt (strike (· < w.heap.size) w') A' xs ∧ Below w.heap.size w w' := by
  have HN := Lib.hid hn
  have HS := Lib.hid hS
  have HW := Lib.hid hw
  have HSZ := Lib.hid hsz
  have EQ : ∀ wz : World, (binOp .eql 27 (.slice A n c) (.slice none 0 0)).run Tryz.prog wz = .ok (.bool A.isNone) wz := fun wz => Lib.run_eql_slice_nil wz _ _ _ _ _ _ _ Tryz.underlying27
  cases A with
  | none =>
    have h0 : xs = [] := hS.row.none_nil
    have hn0 : n = 0 := by rw [← hn, h0]; rfl
    have HX := Lib.hid h0
    subst hn0
    clear hS hn h0 hw hsz
    go_enter Tryz.func98, Tryz.ntmps98
    go_wp2_with fail
    go_ret
    exact ⟨_, _, rfl, fun i s h => by rw [HX.out] at h; simp at h, Below.refl _ _⟩
  | some ad =>
    obtain ⟨i0, hi, hz0, hz1, hz2⟩ := info_parts str_info
    obtain ⟨W1, hW1⟩ : ∃ W1, W1 = w.alloc (.cells (madeCells (Value.string ⟨#[]⟩).cells (n * 1)) 9) := ⟨_, rfl⟩
    have MS := run_make (P := Tryz.prog) w 27 9 i0 (.string ⟨#[]⟩) Tryz.underlying27 hi hz0 .i64 .i64 (n : Int) (n : Int) (by omega) (by omega) (by rw [hz2]; omega) (by omega)
    rw [hz1] at MS
    simp only [Int.toNat_natCast] at MS
    rw [← hW1] at MS
    have START : Hid (Fill stR w.heap.size w.heap.size xs 0 W1) := Lib.hid (by rw [hW1]; exact Fill.start stR (Nat.le_refl _) _ _ xs (by rw [size_madeCells, hn]; rfl))
    have HB1 : Hid (Below w.heap.size w W1) := Lib.hid (by rw [hW1]; exact below_new (Below.refl _ _) _)
    have EQ' : ∀ wz : World, (binOp .eql 27 (.slice (some ad) n c) (.slice none 0 0)).run Tryz.prog wz = .ok (.bool false) wz := EQ
    clear EQ hW1 hS hn hw hsz
    go_enter Tryz.func98, Tryz.ntmps98
    go_wp2_with fail
    go_loopw [15] (fun s15 wr => ∃ k : Nat, k ≤ n ∧ s15 = .int .i64 k ∧ Hid (Fill stR w.heap.size w.heap.size xs k wr) ∧ Hid (Below w.heap.size w wr)) (fun s15 _ => n - (intOf s15).toNat)
    case atStart => exact ⟨0, by omega, rfl, START, HB1⟩
    case round =>
      obtain ⟨k, hk, rfl, HF, HB⟩ := hrel
      obtain ⟨wo, rfl⟩ : ∃ wo : World, wo = wr := ⟨_, rfl⟩
      clear MS EQ' START HB1
      by_cases hlt : k < n
      · obtain ⟨s, hs⟩ : ∃ s, xs[k]? = some s := ⟨_, List.getElem?_eq_getElem (by rw [HN.out]; exact hlt)⟩
        obtain ⟨g, o, e1, hg, hc, -⟩ := HS.out k s hs
        obtain rfl := Option.some.inj e1
        have hc' := ((below_over HW.out HB.out).cell (p := ⟨g, _, none⟩) hg).trans hc
        have CL := Lib.hid (cln_any s wo (HSZ.out s (List.mem_of_getElem? hs)))
        have HSS := Lib.hid hs
        clear hs hc hg e1
        go_upto_region 7 with fail
        clear hc'
        go_wp2_with fail
        refine CL.out.mono ?_; rintro e w2 ⟨rfl, hb2⟩
        have hlw : w.heap.size < wo.heap.size := HF.out.hg
        have F2 := HF.out.keep hb2.size (fun b _ hb => hb2.block b hb)
        have HT := F2.at (m := 1) (by rw [HN.out]; exact hlt) rfl
        have t0 := (HT 0 (by omega)).1
        have f0 := (HT 0 (by omega)).2
        rw [show k * stR.k + 0 = k by show k * 1 + 0 = k; omega] at t0 f0
        obtain ⟨u0, t0⟩ := Option.isSome_iff_exists.1 t0
        have F3 : Hid (Fill stR w.heap.size w.heap.size xs (k + 1) (w2.setCell ⟨w.heap.size, k, none⟩ (.string s))) := Lib.hid (by
          have := F2.put HSS.out (l := [.string s]) (B := wo.heap.size) ⟨rfl, by have := HSZ.out s (List.mem_of_getElem? HSS.out); omega⟩ hlw
          rw [show k * stR.k = k by show k * 1 = k; omega] at this
          exact this)
        have B3 : Hid (Below w.heap.size w (w2.setCell ⟨w.heap.size, k, none⟩ (.string s))) := Lib.hid (below_put (below_over HB.out hb2) (Nat.le_refl _) _)
        clear F2 HT hb2 CL
        go_wp2_with fail
        go_roundw
        case rel => exact ⟨k + 1, by omega, by go_num, F3, B3⟩
        case measure => simp [intOf]; omega
      · have hkn : k = n := by omega
        have DONE := Lib.hid (HF.out.done (m := w.heap.size) (by rw [HN.out]; omega) (Nat.le_refl _))
        clear hkn
        go_wp2_with fail
        go_ret
        exact ⟨_, _, rfl, DONE.out.names, HB.out⟩
end Go.Proofs.YtkgmdbkcldojnaaGreatDoor
