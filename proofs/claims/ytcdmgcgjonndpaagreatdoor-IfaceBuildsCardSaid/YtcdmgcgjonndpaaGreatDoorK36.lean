/-
  Several texts in one.
-/
import Derived.Test.YtcdmgcgjonndpaaGreatDoorK35
import Derived.LaidLaws
import Derived.LaidHandle
import Derived.Stop.LaidErr
import Derived.Stop.Joined
import Derived.Deep.DeepHandedRow
import Derived.ChangeSame
import Derived.WideKeyArgs
import Derived.Test.YtcdmgcgjonndpaaGreatDoorRows
set_option maxRecDepth 100000
set_option maxHeartbeats 32000000
namespace Go.Proofs.YtcdmgcgjonndpaaGreatDoor
open Go Go.RowKit Go.Shelf
open Go.Sort Go.Maps
open M
theorem bd_at {m : Mo} {pkg : ByteArray} {major : Int} {env : List If} {j : Int} {x : If} (h : BdIs m pkg major env 0 j x) : j = -1 := by
  rcases h with ⟨-, h, -⟩ | ⟨-, -, h, -⟩ | ⟨-, h⟩
  · exact absurd rfl h
  · cases h
  · rcases h with ⟨i, d, u, -, -, h, -⟩ | ⟨-, h, -⟩
    · exact absurd rfl h
    · exact h
theorem bd_neg {m : Mo} {pkg : ByteArray} {major : Int} {env : List If} {c : Int} {x : If} (h : BdIs m pkg major env c (-1) x) (hc : c ≠ 0) : c = 1 := by
  rcases h with ⟨hr, -, -⟩ | ⟨-, -, h, -⟩ | ⟨-, h⟩
  · rcases hr with ⟨-, e, -⟩ | ⟨-, h⟩
    · exact e
    · cases hk : check7 m with
      | none => rw [hk] at h; exact absurd h.1 hc
      | some q =>
        obtain ⟨i, b⟩ := q;rw [hk] at h;obtain ⟨i', b', e1, -, -⟩ := ck7_at hk;have := h.2
        omega
  · exact h
  · rcases h with ⟨i, d, u, -, h, -⟩ | ⟨h, -⟩
    · omega
    · exact absurd h hc
theorem told10_any {m : Mo} {pkg : ByteArray} {major : Int} {env : List If} {c j : Int} {x : If} {v : Value} (w : World) (hb : BdIs m pkg major env c j x) (he : EvIs c j v w) (hg : ErrT w) :
    Calls Tryz.prog 9 #[v, .int .i64 c, .int .i64 j] w fun e w' => e = .returned (.bool true) /\ Below w.heap.size w w' := by
  rcases he with ⟨rfl, rfl⟩ | ⟨hc, rfl, rfl⟩ | ⟨g, i, b, hc, rfl, rfl, rfl, h1, h2, h3⟩
  · obtain rfl := bd_at hb
    have CD := hZ (codeN_none w);clear hb hg;go_enter Tryz.func9, Tryz.ntmps9
    go_wp2_with fail
    refine CD.out.mono ?_; rintro e w2 ⟨rfl, hb2⟩
    go_wp2_with fail
    go_ret;exact ⟨rfl, hb2⟩
  · obtain rfl := bd_neg hb hc
    have CD := hZ (codeN_code 1 (by decide) (by decide) w);clear hb hg hc;go_enter Tryz.func9, Tryz.ntmps9
    go_wp2_with fail
    refine CD.out.mono ?_; rintro e w2 ⟨rfl, hb2⟩
    go_wp2_with fail
    go_ret;exact ⟨rfl, hb2⟩
  · have IS := hZ (isSpot_any g i b w hg h1 h2 h3)
    have h0 : ¬ (i : Int) < 0 := by omega
    clear hb hg hc h1 h2 h3;go_enter Tryz.func9, Tryz.ntmps9
    go_wp2_with fail
    refine IS.out.mono ?_; rintro e w1 ⟨rfl, hb1⟩
    go_wp2_with fail
    go_ret;exact ⟨rfl, hb1⟩
theorem ifaceBuilds_any (m : Mo) (l : List Value) (pkg : ByteArray) (major : Int) (env : List If) (Ae : Option Addr) (ce : Nat) (w : World) (hv : MoAt w l m) (hcap : CapsAt l m) (hpk : pkg.size <= 9223372036854775807) (hE : RowIn ifR w Ae env) (hel : env.length <= 9223372036854775807) (hg : ErrT w) :
    Calls Tryz.prog 3 #[.agg l.toArray, .string pkg, .int .i64 major, .slice Ae env.length ce] w fun e w' => e = .returned (.bool true) /\ Below w.heap.size w w' := by
  have HV := hZ hv;have HE := hZ hE;have HG := hZ hg;obtain ⟨Ai, ci, Ad, cd, rfl, -, -, -, -, -⟩ := hv;have HCP := hZ hcap;clear hE hg hcap;obtain ⟨nd, hnd⟩ : ∃ nd, nd = m.decs.length := ⟨_, rfl⟩;have HND := hZ hnd;obtain ⟨ne, hne⟩ : ∃ ne, ne = env.length := ⟨_, rfl⟩;have HNE := hZ hne;rw [<- hnd, <- hne];obtain ⟨w0, hw0⟩ : ∃ w0, w0 = w.alloc (.cells #[.string m.name, .slice Ai m.imps.length ci, .slice Ad nd cd] 25) := ⟨_, rfl⟩;have HB0 : Hid (Below w.heap.size w w0) := hZ (by rw [hw0]; exact below_new (Below.refl _ _) _)
  have HX00 : Hid (∀ w', Below w0.heap.size w0 w' -> ∀ i v, (#[.string m.name, .slice Ai m.imps.length ci, .slice Ad nd cd] : Array Value)[i]? = some v -> w'.cell? ⟨w.heap.size, i, none⟩ = some v) := hZ (fun w' hb i v hv => by
    have h1 : w0.heap[w.heap.size]? = some (.cells #[.string m.name, .slice Ai m.imps.length ci, .slice Ad nd cd] 25 (0, 0)) := by rw [hw0]; exact heap_alloc_new w _
    rw [(bcell hb).1 _ _ (Array.getElem?_eq_some_iff.1 h1).1, cZ h1]; exact hv)
  have HV00 : Hid (∀ w', Below w0.heap.size w0 w' -> MoAt w' [.string m.name, .slice Ai m.imps.length ci, .slice Ad nd cd] m) := hZ (fun w' hb => by rw [hnd]; exact HV.out.below (below_over HB0.out hb));have HE00 : Hid (∀ w', Below w0.heap.size w0 w' -> RowIn ifR w' Ae env) := hZ (fun w' hb => HE.out.below (below_over HB0.out hb));have HG0 : Hid (∀ w', Below w0.heap.size w0 w' -> ErrT w') := hZ (fun w' hb => HG.out.on (below_over HB0.out hb));have HWB := hZ hw0;clear hw0 HV HE hnd hne;go_enter Tryz.func3, Tryz.ntmps3
  go_wp2_with fail
  rw [<- HWB.out];refine (up10_any _).mono ?_; rintro e w1 ⟨rfl, hb1⟩
  have HB1 := hZ hb1;clear hb1;have x0 := HX00.out w1 HB1.out 0 _ rfl;have x1 := HX00.out w1 HB1.out 1 _ rfl;have x2 := HX00.out w1 HB1.out 2 _ rfl;go_wp2_with fail
  refine (rfew6_any m _ _ (HV00.out _ HB1.out)).mono ?_; rintro e w2 ⟨rfl, hb2⟩
  have HB2 := hZ (below_over HB1.out hb2);clear x0 x1 x2 hb2;obtain ⟨qe, hqe⟩ : ∃ q, q = fewE env := ⟨_, rfl⟩;have CF0 := rfew8_any Ae ce env w2 (HE00.out _ HB2.out) hel;rw [<- hqe, <- HNE.out] at CF0;have CF := hZ CF0;have HQE := hZ hqe;clear CF0 hqe;obtain ⟨qf, hqf⟩ : ∃ q, q = fewM m := ⟨_, rfl⟩;rw [<- hqf];have HQF := hZ hqf;clear hqf;go_wp2_with fail
  refine CF.out.mono ?_; rintro e w3 ⟨rfl, hb3⟩
  have HB3 := hZ (below_over HB2.out hb3);clear hb3 CF;cases qf with
  | false =>
    go_wp2_with fail
    go_ret;exact ⟨rfl, below_over HB0.out HB3.out⟩
  | true =>
  cases qe with
  | false =>
    go_wp2_with fail
    go_ret;exact ⟨rfl, below_over HB0.out HB3.out⟩
  | true =>
  by_cases h500 : pkg.size <= 500
  rotate_left
  · have hg1 : decide ((500 : Int) < (pkg.size : Int)) = true := by simp; omega
    go_wp2_with fail
    go_ret;exact ⟨rfl, below_over HB0.out HB3.out⟩
  have hg1 : decide ((500 : Int) < (pkg.size : Int)) = false := by simp; omega
  have HD := hZ (few7 HQF.out.symm).2.2;have H9 : Hid (∀ x ∈ env, ∀ y ∈ x.types, many y.typ <= 9000) := hZ (fun x hx => (few_ifs HQE.out.symm hx).1);go_upto_region 6 with fail
  clear hg1;have x0 := HX00.out w3 HB3.out 0 _ rfl;have x1 := HX00.out w3 HB3.out 1 _ rfl;have x2 := HX00.out w3 HB3.out 2 _ rfl;have BC0 := build10_any m pkg major env Ai ci Ad cd Ae ce w3 (by rw [<- HND.out]; exact HV00.out w3 HB3.out) HCP.out hpk (HE00.out w3 HB3.out) hel (fun d hd => (HD.out d hd).1);rw [<- HND.out, <- HNE.out] at BC0;have BC := hZ BC0;clear BC0;go_wp2_with fail
  refine BC.out.mono ?_; rintro e w4 ⟨c, j, x, lx, v, hbd, rfl, hev, hif, hb4⟩
  have HBD := hZ hbd;have HEV := hZ hev;have HIF := hZ hif;obtain ⟨Xt, xt, Xv, xv, rfl, -⟩ := hif;obtain ⟨w5, hw5⟩ : ∃ w5, w5 = w4.alloc (.cells #[.string x.pkg, .int .i64 x.major, .string x.mod, .slice Xt x.types.length xt, .slice Xv x.vals.length xv] 32) := ⟨_, rfl⟩;have B5 : Below w4.heap.size w4 w5 := by rw [hw5]; exact below_new (Below.refl _ _) _
  have Y5 : w5.heap[w4.heap.size]? = some (.cells #[.string x.pkg, .int .i64 x.major, .string x.mod, .slice Xt x.types.length xt, .slice Xv x.vals.length xv] 32 (0, 0)) := by rw [hw5]; exact heap_alloc_new w4 _
  have s5 : w4.heap.size < w5.heap.size := by rw [hw5]; simp
  have HB5 := hZ (below_over HB3.out (below_over hb4 B5));have HY5 : Hid (∀ wx, Below w5.heap.size w5 wx -> wx.heap[w4.heap.size]? = some (.cells #[.string x.pkg, .int .i64 x.major, .string x.mod, .slice Xt x.types.length xt, .slice Xv x.vals.length xv] 32 (0, 0))) := hZ (fun wx hb => (hb.block _ s5).trans Y5);have HI5 : Hid (∀ wx, Below w5.heap.size w5 wx -> ifE wx [.string x.pkg, .int .i64 x.major, .string x.mod, .slice Xt x.types.length xt, .slice Xv x.vals.length xv] x) := hZ (fun wx hb => ifR.keep _ _ _ _ HIF.out (below_over B5 hb));have HEV5 : Hid (∀ wx, Below w5.heap.size w5 wx -> EvIs c j v wx) := hZ (fun wx hb => HEV.out.below (below_over B5 hb));have HW5 := hZ hw5;clear x0 x1 x2 hbd hev hb4 hw5 B5 Y5 s5 BC;go_upto_region 7 with fail
  rw [<- HW5.out];clear HW5;have x0 := HX00.out w5 HB5.out 0 _ rfl;have x1 := HX00.out w5 HB5.out 1 _ rfl;have x2 := HX00.out w5 HB5.out 2 _ rfl;have RC0 := rbuild10_any m pkg major env Ai ci Ad cd Ae ce w5 (by rw [<- HND.out]; exact HV00.out w5 HB5.out) hpk (HE00.out w5 HB5.out) hel H9.out (fun d hd => (HD.out d hd).1);rw [<- HND.out, <- HNE.out] at RC0;have RC := hZ RC0;clear RC0;go_wp2_with fail
  refine RC.out.mono ?_; rintro e w6 ⟨c', j', x', lx', hbd', rfl, hif', hb6⟩
  obtain ⟨ec, ej, ex⟩ := bd_one hbd' HBD.out;subst ec ej ex;have HIF' := hZ hif'
  obtain ⟨Zt, zt, Zv, zv, rfl, -⟩ := hif';obtain ⟨w7, hw7⟩ : ∃ w7, w7 = w6.alloc (.cells #[.string x'.pkg, .int .i64 x'.major, .string x'.mod, .slice Zt x'.types.length zt, .slice Zv x'.vals.length zv] 32) := ⟨_, rfl⟩;have B7 : Below w6.heap.size w6 w7 := by rw [hw7]; exact below_new (Below.refl _ _) _
  have Y7 : w7.heap[w6.heap.size]? = some (.cells #[.string x'.pkg, .int .i64 x'.major, .string x'.mod, .slice Zt x'.types.length zt, .slice Zv x'.vals.length zv] 32 (0, 0)) := by rw [hw7]; exact heap_alloc_new w6 _
  have s7 : w6.heap.size < w7.heap.size := by rw [hw7]; simp
  have HB57 := hZ (below_over hb6 B7);have HB7 := hZ (below_over HB5.out HB57.out);have HY7 : Hid (∀ wx, Below w7.heap.size w7 wx -> wx.heap[w6.heap.size]? = some (.cells #[.string x'.pkg, .int .i64 x'.major, .string x'.mod, .slice Zt x'.types.length zt, .slice Zv x'.vals.length zv] 32 (0, 0))) := hZ (fun wx hb => (hb.block _ s7).trans Y7);have HI7 : Hid (∀ wx, Below w7.heap.size w7 wx -> ifE wx [.string x'.pkg, .int .i64 x'.major, .string x'.mod, .slice Zt x'.types.length zt, .slice Zv x'.vals.length zv] x') := hZ (fun wx hb => ifR.keep _ _ _ _ HIF'.out (below_over B7 hb));have TL := hZ (told10_any w7 HBD.out (HEV5.out w7 HB57.out) (HG0.out w7 HB7.out));have RS := hZ (fun (wx : World) (hb : Below w7.heap.size w7 wx) => rsame10_any x' x' _ _ wx (HI5.out wx (below_over HB57.out hb)) (HI7.out wx hb));rw [sameIf_iff.2 (rfl : x' = x')] at RS;have HW7 := hZ hw7;clear x0 x1 x2 hbd' hb6 hw7 B7 Y7 s7 RC;go_upto_region 8 with fail
  rw [<- HW7.out];clear HW7;go_wp2_with fail
  refine TL.out.mono ?_; rintro e w8 ⟨rfl, hb8⟩
  have HB8 := hZ hb8;have X8 := HY5.out w8 (below_over HB57.out hb8);have Z8 := HY7.out w8 hb8;obtain ⟨x0, x1, x2, x3, x4⟩ := cq5 X8;obtain ⟨y0, y1, y2, y3, y4⟩ := cq5 Z8;simp at x0 x1 x2 x3 x4 y0 y1 y2 y3 y4;clear X8 Z8 hb8 TL;go_wp2_with fail
  refine (RS.out w8 HB8.out).mono ?_; rintro e w9 ⟨rfl, hb9⟩
  have FIN := hZ (below_over HB0.out (below_over HB7.out (below_over HB8.out hb9)));clear x0 x1 x2 x3 x4 y0 y1 y2 y3 y4 hb9;go_wp2_with fail
  go_ret;exact ⟨rfl, FIN.out⟩
end Go.Proofs.YtcdmgcgjonndpaaGreatDoor
namespace Go.Proofs.YtcdmgcgjonndpaaGreatDoor
open Go Go.ChangeShapes Go.WideShapes Go.ChangeAt Go.RowKit
theorem own : ownKnob Tryz.prog.godebug = none := by kernel_rfl
theorem laidOut : laidOutB Tryz.prog = true := by kernel_rfl
theorem errVar : Tryz.prog.globalNamed "errors.errorType" = some 0 := by kernel_rfl
theorem errRt : (Tryz.prog.cutTypes.find? (·.1 == "internal/reflectlite.rtype")).map (·.2) = some 199 := by kernel_rfl
theorem errRow : ((List.range 267).filter fun t => Tryz.prog.rowNamed t [101, 114, 114, 111, 114]) = [34] := by kernel_rfl
theorem typesSize : Tryz.prog.types.size = 267 := by kernel_rfl
theorem errT_of {W : World} {l : List (String × DataW Unit)} (hl : l = [("errors.errorType", Rows.laid_errors_errorType)]) (h : laidMetH Tryz.prog l W) : ErrT W := by
  subst hl;have h' : laidMet Tryz.prog [] W /\ handlesMet Tryz.prog [("errors.errorType", Rows.laid_errors_errorType)] W := h
  obtain ⟨name, u, ty, e1, e2, e3, e4, e5⟩ := h'.2 _ (List.mem_singleton.2 rfl);have en : name = [101, 114, 114, 111, 114] := (Option.some.inj e1).symm;subst en;obtain rfl := Option.some.inj (errRt.symm.trans e2);have hm : ty ∈ (List.range 267).filter fun t => Tryz.prog.rowNamed t [101, 114, 114, 111, 114] := List.mem_filter.2 ⟨List.mem_range.2 (by rw [<- typesSize]; exact e3), e4⟩
  rw [errRow] at hm;obtain rfl := List.mem_singleton.1 hm;have hh : typeHandle Tryz.prog 34 = .pointer (some ⟨1, 34, none⟩) := by kernel_rfl
  rw [hh] at e5;unfold ErrT
  simpa using World.var?_cell errVar e5 0
noncomputable def laidWorld (os : Os) : World :=
  let w0 := World.holding Tryz.prog os ⟨#[], #[], []⟩
  { w0 with heap := w0.heap.modify 0 fun
      | .cells _ t frozen => .cells #[.iface 199 (.agg #[.pointer (some ⟨1, 34, none⟩)])] t frozen
      | o => o }
theorem laidWorld_met (os : Os) (args : Array Value) : laidMetH Tryz.prog [("errors.errorType", Rows.laid_errors_errorType)] ((laidWorld os).forCall (fun _ _ => 0) ⟨#[], args, []⟩).memory :=
  laidMetH_of_parts (laidMet_nil _ _) (by kernel_rfl)
end Go.Proofs.YtcdmgcgjonndpaaGreatDoor
namespace Go.Proofs.YtcdmgcgjonndpaaGreatDoor
open Go Go.RowKit Go.WideShapes Go.ChangeShapes
section
variable {H : Type} {enc : TypeId × Value -> H} {P : Program}
theorem post_of_below {f : Func} {s : ChangeSpec} {apart fresh handsOn again : Bool} {W W' : World} {args : Array Value} {v : Value} {ds gs : List (DataW H)} {before pa pv : List MemPlace}
    (hW : DataW.Whole enc P f.params.toList s.vars apart W args.toList ds gs before)
    (hres : ∀ (b : Nat) (sp : Nat -> Bool) (hd : Bool), DataW.TrodAll enc P W' b sp hd f.resultTypes.toList (v.resultList f.resultTypes.size) (s.fn H (ds ++ gs)).results [])
    (hargs : ∀ sp : Nat -> Bool, (∀ p ∈ before, sp p.block = true) -> DataW.TrodAll enc P W' 0 sp true f.params.toList args.toList (s.fn H (ds ++ gs)).args pa)
    (hvars : ∀ sp : Nat -> Bool, (∀ p ∈ before, sp p.block = true) -> DataW.TrodVars enc P W' sp s.vars (s.fn H (ds ++ gs)).vars pv)
    (hps : before = pa ++ pv) (hb : Below W.heap.size W W')
    (hok : ∀ (j : Nat) (t : TypeId) (r : Value), f.resultTypes[j]? = some t -> (v.resultList f.resultTypes.size)[j]? = some r -> Value.okWide P W' .any 0 t r) :
    s.post enc P f apart fresh handsOn again W args v W' := by
  have hlt : ∀ p ∈ before, p.block < W.heap.size := fun p hp => hW.lt p hp
  have hold : ∀ p ∈ before, (fun b => decide (b < W.heap.size)) p.block = true := fun p hp => by simpa using hlt p hp
  refine ⟨ds, gs, before, [], pa, pv, hW, hres _ _ _, hargs _ hold, hvars _ hold, World.keptBut_mono (fun p hp => ⟨hp, ?_⟩) (hb.frame (· ∈ before)), fun _ => ?_⟩
  · rw [hps, List.mem_append] at hp
    exact Or.inr hp
  · obtain ⟨_, _, _, _, _, hz, hn⟩ := hW
    refine ⟨hok, _, _, ([] ++ pa) ++ pv, ⟨[] ++ pa, pv, trodAll_append (hargs _ (fun _ _ => rfl)) (hres _ _ _), hvars _ (fun _ _ => rfl), rfl, ?_, ?_⟩, ?_⟩
    · intro b off hp
      have hin : MemPlace.cell b off ∈ before := by rw [hps]; simpa using hp
      rw [hb.frozen (hlt _ hin)];exact hz b off hin
    · intro ha
      have := hn ha
      rw [hps] at this;simpa using this
    · intro p hp _
      rw [hps];simpa using hp
theorem trodAll_stays (hl : laidOutB P = true) {W W' : World} {sp : Nat -> Bool} (hb : Below W.heap.size W W') :
    ∀ (ts : List TypeId) (vs : List Value) (ds : List (DataW H)) (ps : List MemPlace), (∀ t ∈ ts, P.readableRec t = true /\ t < P.types.size) ->
      DataW.TrodAll enc P W 0 (fun _ => true) true ts vs ds ps -> (∀ x ∈ ps, x.block < W.heap.size) -> (∀ x ∈ ps, sp x.block = true) -> DataW.TrodAll enc P W' 0 sp true ts vs ds ps
  | [], vs, ds, ps, _, h, _, _ => by
    obtain ⟨rfl, rfl, rfl⟩ := trodAll_nil h;exact trodAll_mk0
  | t :: ts, vs, ds, ps, ht, h, hlt, hs => by
    obtain ⟨v, vs', d, ds', p, q, rfl, rfl, rfl, h0, h1⟩ := trodAll_cons h;obtain ⟨hr, hrow⟩ := ht t (by simp)
    exact ⟨p, q, WideElems.Trod_stays hl hr hrow h0 (fun x hx => hb.same (hlt x (by simp [hx]))) (fun x hx => hs x (by simp [hx])),
      trodAll_stays hl hb ts vs' ds' q (fun u hu => ht u (by simp [hu])) h1 (fun x hx => hlt x (by simp [hx])) (fun x hx => hs x (by simp [hx])), rfl⟩
theorem law_post {f : Func} {s : ChangeSpec} {apart fresh handsOn again : Bool} {W W' : World} {args : Array Value} {ds gs : List (DataW H)} {before : List MemPlace} {tb : TypeId}
    (hl : laidOutB P = true) (hro : f.params.toList.all (fun t => P.readableRec t && decide (t < P.types.size)) = true) (hres : f.resultTypes = #[tb]) (hbool : P.underlying tb = some .bool) (hvars : s.vars = [])
    (hW : DataW.Whole enc P f.params.toList s.vars apart W args.toList ds gs before) (hb : Below W.heap.size W W')
    (hs : s.fn H (ds ++ gs) = { results := [.lit (.bool true)], args := ds }) :
    s.post enc P f apart fresh handsOn again W args (.bool true) W' := by
  have hW' := hW
  obtain ⟨p, q, hA, hV, hpq, _, _⟩ := hW;rw [hvars] at hV;obtain ⟨rfl, rfl⟩ := trodVars_none hV;rw [List.append_nil] at hpq;subst hpq;have hlt : ∀ x ∈ before, x.block < W.heap.size := fun x hx => hW'.lt x hx
  have hro' : ∀ t ∈ f.params.toList, P.readableRec t = true /\ t < P.types.size := fun t ht => by
    have := List.all_eq_true.1 hro t ht
    simpa using this
  refine post_of_below (pa := before) (pv := []) hW' ?_ ?_ ?_ (by simp) hb ?_
  · intro b sp hd
    rw [hs, hres];exact trodAll_mk1 (shut_bool hbool true)
  · intro sp hsp
    rw [hs];exact trodAll_stays hl hb _ _ _ _ hro' hA hlt hsp
  · intro sp _
    rw [hs, hvars];exact rfl
  · exact ok_one hres rfl (okWide_bool_mk hbool true)
end
end Go.Proofs.YtcdmgcgjonndpaaGreatDoor
