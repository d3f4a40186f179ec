/-
  Several texts in one.
-/
import Derived.Test.YteecgiebimdbhaaGreatDoorK30
import Derived.Deep.DeepHandedRow
import Derived.Lib.LaidTab
import Derived.LaidLaws
import Derived.LaidHandle
import Derived.Stop.LaidErr
import Derived.Stop.Joined
import Derived.ChangeSame
import Derived.WideKeyArgs
import Derived.Test.YteecgiebimdbhaaGreatDoorRows
set_option maxRecDepth 100000
namespace Go.Proofs.YteecgiebimdbhaaGreatDoor
open Go Go.ChangeShapes Go.WideShapes Go.ChangeAt Go.RowKit
theorem own : ownKnob Tryz.prog.godebug = none := by kernel_rfl
theorem laidOut : laidOutB Tryz.prog = true := by kernel_rfl
theorem gPow : Tryz.prog.globalNamed "internal/strconv.uint64pow10" = some 1 := by kernel_rfl
theorem gPowType : (Tryz.prog.globals[1]?).map (·.type) = some 264 := by kernel_rfl
theorem cellsPow : Tryz.prog.cellsOf 264 = 20 := by kernel_rfl
theorem cellsU64 : Tryz.prog.cellsOf 237 = 1 := by kernel_rfl
theorem powData : (Rows.laid_internal_strconv_uint64pow10 : DataW Unit) = Lib.tabData .u64 Lib.pow10Tab := by kernel_rfl
theorem errVar : Tryz.prog.globalNamed "errors.errorType" = some 0 := by kernel_rfl
theorem errRt : (Tryz.prog.cutTypes.find? (·.1 == "internal/reflectlite.rtype")).map (·.2) = some 172 := by kernel_rfl
theorem errRow : ((List.range 386).filter fun t => Tryz.prog.rowNamed t [101, 114, 114, 111, 114]) = [29] := by kernel_rfl
theorem typesSize : Tryz.prog.types.size = 386 := by kernel_rfl
theorem gSyn : Tryz.prog.globalNamed "strconv.ErrSyntax" = some 5 := by kernel_rfl
theorem gSynType : (Tryz.prog.globals[5]?).map (·.type) = some 29 := by kernel_rfl
theorem gRng : Tryz.prog.globalNamed "strconv.ErrRange" = some 6 := by kernel_rfl
theorem gRngType : (Tryz.prog.globals[6]?).map (·.type) = some 29 := by kernel_rfl
theorem cellsES : Tryz.prog.cellsOf 344 = 1 := by kernel_rfl
theorem cellsStr : Tryz.prog.cellsOf 9 = 1 := by kernel_rfl
def laidL : List (String × DataW Unit) := [("math/bits.deBruijn32tab", Rows.laid_math_bits_deBruijn32tab), ("math/bits.deBruijn64tab", Rows.laid_math_bits_deBruijn64tab), ("internal/strconv.uint64pow10", Rows.laid_internal_strconv_uint64pow10), ("errors.errorType", Rows.laid_errors_errorType), ("strconv.ErrRange", Rows.laid_strconv_ErrRange), ("strconv.ErrSyntax", Rows.laid_strconv_ErrSyntax)]
theorem parts_of {W : World} (h : laidMetH Tryz.prog laidL W) :
    laidMet Tryz.prog [("math/bits.deBruijn32tab", Rows.laid_math_bits_deBruijn32tab), ("math/bits.deBruijn64tab", Rows.laid_math_bits_deBruijn64tab), ("internal/strconv.uint64pow10", Rows.laid_internal_strconv_uint64pow10), ("strconv.ErrRange", Rows.laid_strconv_ErrRange), ("strconv.ErrSyntax", Rows.laid_strconv_ErrSyntax)] W /\ handlesMet Tryz.prog [("errors.errorType", Rows.laid_errors_errorType)] W := h
theorem errT_of {W : World} (h : laidMetH Tryz.prog laidL W) : ErrT W := by
  obtain ⟨name, u, ty, e1, e2, e3, e4, e5⟩ := (parts_of h).2 _ (List.mem_singleton.2 rfl);have en : name = [101, 114, 114, 111, 114] := (Option.some.inj e1).symm;subst en;obtain rfl := Option.some.inj (errRt.symm.trans e2);have hm : ty ∈ (List.range 386).filter fun t => Tryz.prog.rowNamed t [101, 114, 114, 111, 114] := List.mem_filter.2 ⟨List.mem_range.2 (by rw [<- typesSize]; exact e3), e4⟩
  rw [errRow] at hm;obtain rfl := List.mem_singleton.1 hm;have hh : typeHandle Tryz.prog 29 = .pointer (some ⟨7, 29, none⟩) := by kernel_rfl
  rw [hh] at e5;unfold ErrT
  simpa using World.var?_cell errVar e5 0
theorem rowES (u : TypeId) (s : String) (hs : "*" ++ "errors.errorString" = s) (h : Tryz.prog.typeName? 3 u = some s) : u = 342 := by
  subst hs;exact typeName_ptr_named (nm := "errors.errorString") (by kernel_rfl) (by kernel_rfl) (by decide) u h
theorem cenv_of {W : World} (h : laidMetH Tryz.prog laidL W) : CEnv W := by
  have h3 := (parts_of h).1.tail.tail;have h4 := h3.tail;have h5 := h4.tail;have h3' := h3
  rw [powData] at h3';obtain ⟨a4, s4, v4, -⟩ := laid_sentinel h4 gRng gRngType Tryz.underlying29 (fun u hu => rowES u _ (by kernel_rfl) hu) Tryz.underlying342 Tryz.underlying344 rfl rfl Tryz.underlying9 cellsES cellsStr;obtain ⟨a5, s5, v5, -⟩ := laid_sentinel h5 gSyn gSynType Tryz.underlying29 (fun u hu => rowES u _ (by kernel_rfl) hu) Tryz.underlying342 Tryz.underlying344 rfl rfl Tryz.underlying9 cellsES cellsStr;exact ⟨Lib.tabIs_of_head gPow gPowType Tryz.underlying264 Tryz.underlying237 cellsU64 cellsPow h3', ⟨_, _, by simpa using World.var?_cell gSyn v5 0⟩, ⟨_, _, by simpa using World.var?_cell gRng v4 0⟩⟩
def putTab (g : Nat) (k : IntKind) (zs : List Int) (h : Array Obj) : Array Obj := h.modify g fun o =>
  match o with
  | .cells _ t frozen => .cells (zs.map fun z => Value.int k z).toArray t frozen
  | o => o
def putOne (g : Nat) (v : Value) (h : Array Obj) : Array Obj := h.modify g fun o =>
  match o with
  | .cells _ t frozen => .cells #[v] t frozen
  | o => o
def tab32 : List Int := [0, 1, 28, 2, 29, 14, 24, 3, 30, 22, 20, 15, 25, 17, 4, 8, 31, 27, 13, 23, 21, 19, 16, 7, 26, 12, 18, 6, 11, 5, 10, 9]
def tab64 : List Int := [0, 1, 56, 2, 57, 49, 28, 3, 61, 58, 42, 50, 38, 29, 17, 4, 62, 47, 59, 36, 45, 43, 51, 22, 53, 39, 33, 30, 24, 18, 12, 5, 63, 55, 48, 27, 60, 41, 37, 16, 46, 35, 44, 21, 52, 32, 23, 11, 54, 26, 40, 15, 34, 20, 31, 10, 25, 14, 19, 9, 13, 8, 7, 6]
def txtRng : ByteArray := ⟨#[118, 97, 108, 117, 101, 32, 111, 117, 116, 32, 111, 102, 32, 114, 97, 110, 103, 101]⟩
def txtSyn : ByteArray := ⟨#[105, 110, 118, 97, 108, 105, 100, 32, 115, 121, 110, 116, 97, 120]⟩
noncomputable def laidWorld (os : Os) : World :=
  let w0 := World.holding Tryz.prog os ⟨#[], #[], []⟩
  let n := w0.heap.size
  { w0 with heap := putOne 6 (.iface 342 (.pointer (some ⟨n, 0, none⟩))) (putOne 5 (.iface 342 (.pointer (some ⟨n + 1, 0, none⟩)))
      (putOne 0 (.iface 172 (.agg #[.pointer (some ⟨7, 29, none⟩)]))
        (putTab 3 .u8 tab64 (putTab 2 .u8 tab32 (putTab 1 .u64 Lib.pow10Tab
          ((w0.heap.push (.cells #[.string txtRng] 344 (0, 0))).push (.cells #[.string txtSyn] 344 (0, 0)))))))) }
theorem laidWorld_met (os : Os) (args : Array Value) (h : laidMet Tryz.prog [("math/bits.deBruijn32tab", Rows.laid_math_bits_deBruijn32tab), ("math/bits.deBruijn64tab", Rows.laid_math_bits_deBruijn64tab), ("internal/strconv.uint64pow10", Rows.laid_internal_strconv_uint64pow10), ("strconv.ErrRange", Rows.laid_strconv_ErrRange), ("strconv.ErrSyntax", Rows.laid_strconv_ErrSyntax)] ((laidWorld os).forCall (fun _ _ => 0) ⟨#[], args, []⟩).memory) :
    laidMetH Tryz.prog laidL ((laidWorld os).forCall (fun _ _ => 0) ⟨#[], args, []⟩).memory :=
  laidMetH_of_parts h (by kernel_rfl)
end Go.Proofs.YteecgiebimdbhaaGreatDoor
namespace Go.Proofs.YteecgiebimdbhaaGreatDoor
open Go Go.RowKit Go.WideShapes Go.ChangeShapes
section
variable {H : Type} {enc : TypeId × Value -> H} {P : Program}
theorem post_of_below {f : Func} {s : ChangeSpec} {apart fresh handsOn again : Bool} {W W' : World} {args : Array Value} {v : Value} {ds gs : List (DataW H)} {before pa pv : List MemPlace}
    (hW : DataW.Whole enc P f.params.toList s.vars apart W args.toList ds gs before)
    (hres : ∀ (b : Nat) (sp : Nat -> Bool) (hd : Bool), DataW.TrodAll enc P W' b sp hd f.resultTypes.toList (v.resultList f.resultTypes.size) (s.fn H (ds ++ gs)).results [])
    (hargs : ∀ sp : Nat -> Bool, (∀ p ∈ before, sp p.block = true) -> DataW.TrodAll enc P W' 0 sp true f.params.toList args.toList (s.fn H (ds ++ gs)).args pa)
    (hvars : ∀ sp : Nat -> Bool, (∀ p ∈ before, sp p.block = true) -> DataW.TrodVars enc P W' sp s.vars (s.fn H (ds ++ gs)).vars pv)
    (hps : before = pa ++ pv) (hb : Below W.heap.size W W')
    (hok : ∀ (j : Nat) (t : TypeId) (r : Value), f.resultTypes[j]? = some t -> (v.resultList f.resultTypes.size)[j]? = some r -> Value.okWide P W' .any 0 t r) :
    s.post enc P f apart fresh handsOn again W args v W' := by
  have hlt : ∀ p ∈ before, p.block < W.heap.size := fun p hp => hW.lt p hp
  have hold : ∀ p ∈ before, (fun b => decide (b < W.heap.size)) p.block = true := fun p hp => by simpa using hlt p hp
  refine ⟨ds, gs, before, [], pa, pv, hW, hres _ _ _, hargs _ hold, hvars _ hold, World.keptBut_mono (fun p hp => ⟨hp, ?_⟩) (hb.frame (· ∈ before)), fun _ => ?_⟩
  · rw [hps, List.mem_append] at hp
    exact Or.inr hp
  · obtain ⟨_, _, _, _, _, hz, hn⟩ := hW
    refine ⟨hok, _, _, ([] ++ pa) ++ pv, ⟨[] ++ pa, pv, trodAll_append (hargs _ (fun _ _ => rfl)) (hres _ _ _), hvars _ (fun _ _ => rfl), rfl, ?_, ?_⟩, ?_⟩
    · intro b off hp
      have hin : MemPlace.cell b off ∈ before := by rw [hps]; simpa using hp
      rw [hb.frozen (hlt _ hin)];exact hz b off hin
    · intro ha
      have := hn ha
      rw [hps] at this;simpa using this
    · intro p hp _
      rw [hps];simpa using hp
theorem trodAll_stays (hl : laidOutB P = true) {W W' : World} {sp : Nat -> Bool} (hb : Below W.heap.size W W') :
    ∀ (ts : List TypeId) (vs : List Value) (ds : List (DataW H)) (ps : List MemPlace), (∀ t ∈ ts, P.readableRec t = true /\ t < P.types.size) ->
      DataW.TrodAll enc P W 0 (fun _ => true) true ts vs ds ps -> (∀ x ∈ ps, x.block < W.heap.size) -> (∀ x ∈ ps, sp x.block = true) -> DataW.TrodAll enc P W' 0 sp true ts vs ds ps
  | [], vs, ds, ps, _, h, _, _ => by
    obtain ⟨rfl, rfl, rfl⟩ := trodAll_nil h;exact trodAll_mk0
  | t :: ts, vs, ds, ps, ht, h, hlt, hs => by
    obtain ⟨v, vs', d, ds', p, q, rfl, rfl, rfl, h0, h1⟩ := trodAll_cons h;obtain ⟨hr, hrow⟩ := ht t (by simp)
    exact ⟨p, q, WideElems.Trod_stays hl hr hrow h0 (fun x hx => hb.same (hlt x (by simp [hx]))) (fun x hx => hs x (by simp [hx])),
      trodAll_stays hl hb ts vs' ds' q (fun u hu => ht u (by simp [hu])) h1 (fun x hx => hlt x (by simp [hx])) (fun x hx => hs x (by simp [hx])), rfl⟩
theorem law_post {f : Func} {s : ChangeSpec} {apart fresh handsOn again : Bool} {W W' : World} {args : Array Value} {ds gs : List (DataW H)} {before : List MemPlace} {tb : TypeId}
    (hl : laidOutB P = true) (hro : f.params.toList.all (fun t => P.readableRec t && decide (t < P.types.size)) = true) (hres : f.resultTypes = #[tb]) (hbool : P.underlying tb = some .bool) (hvars : s.vars = [])
    (hW : DataW.Whole enc P f.params.toList s.vars apart W args.toList ds gs before) (hb : Below W.heap.size W W')
    (hs : s.fn H (ds ++ gs) = { results := [.lit (.bool true)], args := ds }) :
    s.post enc P f apart fresh handsOn again W args (.bool true) W' := by
  have hW' := hW
  obtain ⟨p, q, hA, hV, hpq, _, _⟩ := hW;rw [hvars] at hV;obtain ⟨rfl, rfl⟩ := trodVars_none hV;rw [List.append_nil] at hpq;subst hpq;have hlt : ∀ x ∈ before, x.block < W.heap.size := fun x hx => hW'.lt x hx
  have hro' : ∀ t ∈ f.params.toList, P.readableRec t = true /\ t < P.types.size := fun t ht => by
    have := List.all_eq_true.1 hro t ht
    simpa using this
  refine post_of_below (pa := before) (pv := []) hW' ?_ ?_ ?_ (by simp) hb ?_
  · intro b sp hd
    rw [hs, hres];exact trodAll_mk1 (shut_bool hbool true)
  · intro sp hsp
    rw [hs];exact trodAll_stays hl hb _ _ _ _ hro' hA hlt hsp
  · intro sp _
    rw [hs, hvars];exact rfl
  · exact ok_one hres rfl (okWide_bool_mk hbool true)
end
end Go.Proofs.YteecgiebimdbhaaGreatDoor
namespace Go.Proofs.YteecgiebimdbhaaGreatDoor
open Go Go.ChangeShapes Go.WideShapes Go.ChangeAt Go.RowKit Go.Joins Go.Deep
open M
section
variable {H : Type} {enc : TypeId × Value -> H} {w : World} {base : Nat} {sp : Nat -> Bool} {held : Bool}
theorem bulk_pos : ∀ d : DataW H, 1 <= Rows.uptoBulk d
  | .lit x => by cases x <;> simp [Rows.uptoBulk]
  | .nil => by simp [Rows.uptoBulk]
  | .ptr d => by simp [Rows.uptoBulk]
  | .slice elems spare => by simp [Rows.uptoBulk]
  | .agg parts => by simp [Rows.uptoBulk]
  | .iface _ d => by simp [Rows.uptoBulk]
  | .map entries => by simp [Rows.uptoBulk]
  | .held _ => by simp [Rows.uptoBulk]
theorem bulk_all (l : List (DataW H)) : l.length <= Rows.uptoBulkAll l := by
  induction l with
  | nil => exact Nat.zero_le _
  | cons d r ih => rw [Rows.uptoBulkAll, List.length_cons]; have := bulk_pos d; omega
theorem env_bulk {A : Option Addr} {n c : Nat} {d : DataW H} {p : List MemPlace} (h : DataW.Trod enc Tryz.prog w base sp held 41 (.slice A n c) d p) : n <= Rows.uptoBulk d := by
  obtain ⟨fuel, hf⟩ := h;have hf' : DataW.trod enc Tryz.prog w base sp held fuel 41 [.slice A n c] = some (d, p) := hf
  rcases DataW.trod_slice Tryz.underlying41 hf' with ⟨hc, -⟩ | ⟨a', len, cap, elems, rest, n', hn', hc, hx, -, hl, hm, hlen', -, -, -⟩
  · have h := List.head_eq_of_cons_eq hc
    simp only [Value.slice.injEq] at h;omega
  · have h := List.head_eq_of_cons_eq hc
    simp only [Value.slice.injEq] at h;have hd : d = .slice (elems.map (·.1)) (rest.map (·.1)) := congrArg Prod.fst hx;rw [hd, Rows.uptoBulk];have := bulk_all (elems.map (·.1))
    rw [List.length_map] at this;omega
end
section
variable {H : Type} {enc : TypeId × Value -> H} {w : World} {base : Nat} {sp : Nat -> Bool} {held : Bool}
theorem open_ifc {r : Go.Reach} {b0 : Nat} {v : Value} {d : DataW H} {p : List MemPlace} (hv : Value.okWide Tryz.prog w r b0 50 v) (h : DataW.Trod enc Tryz.prog w base sp held 50 v d p) : ∃ l x, v = .agg l.toArray /\ ifE w l x := by
  obtain ⟨cs, rfl, -⟩ := okWide_struct Tryz.underlying50 hv;obtain ⟨fuel, hf⟩ := h;obtain ⟨x, hx⟩ := open_if fuel _ _ hf;obtain ⟨l⟩ := cs;exact ⟨l, x, rfl, hx⟩
end
end Go.Proofs.YteecgiebimdbhaaGreatDoor
namespace Go.Proofs.YteecgiebimdbhaaGreatDoor
open Go Go.RowKit
theorem wf_bd {n : Int} (h : (Lit.int .i64 n).wf = true) : -9223372036854775808 <= n /\ n <= 9223372036854775807 := by
  simp [Lit.wf, IntKind.min, IntKind.max, IntKind.signed, IntKind.bits] at h;omega
end Go.Proofs.YteecgiebimdbhaaGreatDoor
