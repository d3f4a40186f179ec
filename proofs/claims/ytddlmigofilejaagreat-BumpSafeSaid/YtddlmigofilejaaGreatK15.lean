/-
  Several texts in one.
-/
import Derived.Test.YtddlmigofilejaaGreatK14
open List (getElem_toArray getElem_cons_succ getElem_cons_zero set_cons_zero set_cons_succ setIfInBounds_toArray)
set_option maxRecDepth 100000
set_option maxHeartbeats 8000000
namespace Go.Proofs.YtddlmigofilejaaGreat
open Go Go.RowKit Go.Shelf
open Go.Sort Go.Maps
open M
structure Gr2 (kb eb : Nat) (w w' : World) : Prop where
  os : w'.os = w.os
  tape : w'.tape = w.tape
  output : w'.output = w.output
  size : w.heap.size <= w'.heap.size
  block : ∀ b, b < w.heap.size -> b ≠ kb -> b ≠ eb -> w'.heap[b]? = w.heap[b]?
theorem Gr2.trans {kb eb : Nat} {a b c : World} (h : Gr2 kb eb a b) (h' : Gr2 kb eb b c) : Gr2 kb eb a c :=
  ⟨h'.os.trans h.os, h'.tape.trans h.tape, h'.output.trans h.output, Nat.le_trans h.size h'.size, fun k hk h1 h2 => (h'.block k (Nat.lt_of_lt_of_le hk h.size) h1 h2).trans (h.block k hk h1 h2)⟩
theorem Gr2.of_below {kb eb : Nat} {w w' : World} (h : Below w.heap.size w w') : Gr2 kb eb w w' := ⟨h.os, h.tape, h.output, h.size, fun b hb _ _ => h.block b hb⟩
theorem Gr2.of_grown {kb eb : Nat} {w w' : World} (h : w.grownBy w' (some kb)) : Gr2 kb eb w w' := ⟨h.os, h.tape, h.output, h.size, fun b hb h1 _ => h.block b hb (fun e => h1 (Option.some.inj e))⟩
theorem Gr2.base {kb eb : Nat} {w0 w w' : World} (h : Below w0.heap.size w0 w) (hg : Gr2 kb eb w w') (hk : w0.heap.size <= kb) (he : w0.heap.size <= eb) : Below w0.heap.size w0 w' :=
  ⟨hg.os.trans h.os, hg.tape.trans h.tape, hg.output.trans h.output, Nat.le_trans h.size hg.size, fun b hb => (hg.block b (Nat.lt_of_lt_of_le hb h.size) (by omega) (by omega)).trans (h.block b hb)⟩
theorem Gr2.row {kb eb g : Nat} {w w' : World} (h : Gr2 kb eb w w') (hg : w.heap.size <= g) (vs : Array Value) : Gr2 kb eb w (w'.setRow g vs) :=
  ⟨h.os, h.tape, h.output, by rw [size_setRow]; exact h.size, fun b hb h1 h2 => (setRow_other _ _ _ _ (by omega)).trans (h.block b hb h1 h2)⟩
theorem Gr2.cells {kb eb g : Nat} {w w' : World} (h : Gr2 kb eb w w') (hg : w.heap.size <= g) (o : Nat) (l : List Value) : Gr2 kb eb w (w'.setCells g o l) :=
  ⟨by rw [World.os_setCells]; exact h.os, (setCells_below (n := 0) (Below.refl 0 w') (Nat.zero_le g) o l).tape.trans h.tape, by rw [World.output_setCells]; exact h.output, by rw [size_setCells]; exact h.size, fun b hb h1 h2 => by
    rw [World.heap_setCells_other w' g o l (Nat.lt_of_lt_of_le hb h.size) (by omega)]; exact h.block b hb h1 h2⟩
theorem Gr2.cell {kb eb g i : Nat} {w w' : World} (h : Gr2 kb eb w w') (hg : g = eb \/ w.heap.size <= g) (v : Value) : Gr2 kb eb w (w'.setCell ⟨g, i, none⟩ v) :=
  ⟨h.os, h.tape, h.output, by simp; exact h.size, fun b hb h1 h2 => (Below.heap_setCell _ _ _ _ (by show b ≠ g; omega)).trans (h.block b hb h1 h2)⟩
theorem names_base {w0 w : World} {A : Option Addr} {l : List ByteArray} {S : Nat -> Prop} (h : NamesAt w0 A l) (hb : Below w0.heap.size w0 w) (hS : ∀ b, S b -> w0.heap.size <= b) : NamesAt (strike S w) A l := fun i s hs => by
  obtain ⟨g, o, hA, hg, hc, hz⟩ := h i s hs;exact ⟨g, o, hA, by rw [strike_size]; exact Nat.lt_of_lt_of_le hg hb.size, strike_cell.2 ⟨fun e => by have := hS g e; omega, (hb.cell (p := ⟨g, _, none⟩) hg).trans hc⟩, hz⟩
def XpOut (w0 : World) (kb eb : Nat) (m : Mo) (pkg : ByteArray) (major : Int) (env : List If) (Ai : Option Addr) (ci : Nat) (Ad : Option Addr) (cd : Nat) (Ae : Option Addr) (ce : Nat) (made : Int) (lg : Bool) (d : Int) (u : Ty) (w : World) (e : Ending) (w' : World) : Prop :=
  ∃ (l : List Value) (made' : Int) (lg' : Bool), e = .returned (.agg l.toArray) /\ (∃ v, ShL l v) /\ w'.heap[eb]? = some (.cells #[.string m.name, .slice Ai m.imps.length ci, .slice Ad m.decs.length cd, .string pkg, .int .i64 major, .slice Ae env.length ce, .map (some kb), .int .i64 made', .bool lg'] 163 (0, 0)) /\ PlMap w0 w' kb m pkg major env /\ Gr2 kb eb w w' /\
    lg' = (lg || decide (500 < made + many u) || decide (32 < d + deep u - 1)) /\ (lg' = false -> made' = made + many u /\ TyAt (strike (fun b => w0.heap.size <= b /\ b < w.heap.size) w') l u)
def XpCall (w0 : World) (kb eb : Nat) (m : Mo) (pkg : ByteArray) (major : Int) (env : List If) (Ai : Option Addr) (ci : Nat) (Ad : Option Addr) (cd : Nat) (Ae : Option Addr) (ce : Nat) (t u : Ty) : Prop :=
  ∀ (made : Int) (lg : Bool) (d : Int) (l : List Value) (wx : World), (lg = false -> 0 <= made /\ made <= 500) -> 1 <= d -> d <= 33 -> TyAt w0 l t -> Below w0.heap.size w0 wx -> kb < wx.heap.size -> wx.heap[eb]? = some (.cells #[.string m.name, .slice Ai m.imps.length ci, .slice Ad m.decs.length cd, .string pkg, .int .i64 major, .slice Ae env.length ce, .map (some kb), .int .i64 made, .bool lg] 163 (0, 0)) -> PlMap w0 wx kb m pkg major env ->
    Calls Tryz.prog 127 #[.pointer (some ⟨eb, 0, none⟩), .agg l.toArray, .int .i64 d] wx (XpOut w0 kb eb m pkg major env Ai ci Ad cd Ae ce made lg d u wx)
theorem xp_local (w0 : World) (kb eb : Nat) (m : Mo) (pkg : ByteArray) (major : Int) (env : List If) (Ai : Option Addr) (ci : Nat) (Ad : Option Addr) (cd : Nat) (Ae : Option Addr) (ce : Nat) (hns : NsAt w0 [.string m.name, .slice Ai m.imps.length ci, .slice Ad m.decs.length cd, .string pkg, .int .i64 major, .slice Ae env.length ce, .map (some kb)] m pkg major env kb) (hk0 : w0.heap.size <= kb) (he0 : w0.heap.size <= eb) (hke : kb ≠ eb) (t s u : Ty) (h8 : t.kind = 8) (hs : (lookM m pkg major env t.mod t.name).1 = s) (IH : XpCall w0 kb eb m pkg major env Ai ci Ad cd Ae ce s u) : XpCall w0 kb eb m pkg major env Ai ci Ad cd Ae ce t u := by
  intro made lg d l w hmade hd1 hd2 hT hw hkl heb hpl;have hel : eb < w.heap.size := (Array.getElem?_eq_some_iff.1 heb).1;have HT := hZ hT;obtain ⟨Bn, cB, Bs, dB, rfl, -⟩ := hT.parts;obtain ⟨W2, hW2, B2, O0, O1, hl2⟩ := two_boxes w #[.int .i64 t.kind, .string t.pkg, .int .i64 t.major, .string t.mod, .string t.name, .slice Bn t.names.length cB, .slice Bs t.subs.length dB] #[.int .i64 0, .string ⟨#[]⟩, .int .i64 0, .string ⟨#[]⟩, .string ⟨#[]⟩, .slice none 0 0, .slice none 0 0] 50 50;have HB2 := hZ B2;have HO0 := hZ O0;have HO1 := hZ O1;have HW := hZ hW2;have HE2 : Hid (W2.heap[eb]? = some (.cells #[.string m.name, .slice Ai m.imps.length ci, .slice Ad m.decs.length cd, .string pkg, .int .i64 major, .slice Ae env.length ce, .map (some kb), .int .i64 made, .bool lg] 163 (0, 0))) := hZ ((B2.block _ hel).trans heb);have HP2 : Hid (PlMap w0 W2 kb m pkg major env) := hZ (hpl.kept (B2.block _ hkl));have HW0 : Hid (Below w0.heap.size w0 W2) := hZ (below_over hw B2);obtain ⟨D, hD⟩ : ∃ D, D = lookM m pkg major env t.mod t.name := ⟨_, rfl⟩;rw [<- hD] at hs;have HD := hZ hs
  have CM : Hid (Calls Tryz.prog 152 #[.agg #[.string m.name, .slice Ai m.imps.length ci, .slice Ad m.decs.length cd, .string pkg, .int .i64 major, .slice Ae env.length ce, .map (some kb)], .agg #[.int .i64 t.kind, .string t.pkg, .int .i64 t.major, .string t.mod, .string t.name, .slice Bn t.names.length cB, .slice Bs t.subs.length dB]] W2.drew (MnsOut w0 W2.drew kb m pkg major env D)) := hZ (by
    rw [hD];exact meansN_any m pkg major env kb t _ w0 W2.drew hns hk0 (fun b hlt => HW0.out.block b hlt) (below_over HW0.out (Below.drew (Below.refl _ _))) (HP2.out.kept rfl) _ (HT.out.keep (below_over HW0.out (Below.drew (Below.refl _ _)))))
  have KEEP : Hid (∀ wx : World, wx.heap[w.heap.size]? = W2.heap[w.heap.size]? -> (∃ md lx, wx.heap[eb]? = some (.cells #[.string m.name, .slice Ai m.imps.length ci, .slice Ad m.decs.length cd, .string pkg, .int .i64 major, .slice Ae env.length ce, .map (some kb), .int .i64 md, .bool lx] 163 (0, 0))) -> (wx.cell? ⟨w.heap.size, 0, none⟩ = some (.int .i64 t.kind) /\ wx.cell? ⟨w.heap.size, 1, none⟩ = some (.string t.pkg) /\ wx.cell? ⟨w.heap.size, 2, none⟩ = some (.int .i64 t.major) /\ wx.cell? ⟨w.heap.size, 3, none⟩ = some (.string t.mod) /\ wx.cell? ⟨w.heap.size, 4, none⟩ = some (.string t.name) /\ wx.cell? ⟨w.heap.size, 5, none⟩ = some (.slice Bn t.names.length cB) /\ wx.cell? ⟨w.heap.size, 6, none⟩ = some (.slice Bs t.subs.length dB)) /\
      wx.cell? ⟨eb, 0, none⟩ = some (.string m.name) /\ wx.cell? ⟨eb, 1, none⟩ = some (.slice Ai m.imps.length ci) /\ wx.cell? ⟨eb, 2, none⟩ = some (.slice Ad m.decs.length cd) /\ wx.cell? ⟨eb, 3, none⟩ = some (.string pkg) /\ wx.cell? ⟨eb, 4, none⟩ = some (.int .i64 major) /\ wx.cell? ⟨eb, 5, none⟩ = some (.slice Ae env.length ce) /\ wx.cell? ⟨eb, 6, none⟩ = some (.map (some kb))) := hZ (fun wx hb he => by
    have X0 := hb.trans HO0.out;obtain ⟨md, lx, X1⟩ := he;exact ⟨⟨cZ X0 0, cZ X0 1, cZ X0 2, cZ X0 3, cZ X0 4, cZ X0 5, cZ X0 6⟩, cZ X1 0, cZ X1 1, cZ X1 2, cZ X1 3, cZ X1 4, cZ X1 5, cZ X1 6⟩)
  have HIH := hZ IH;have q8 : (t.kind == 8) = true := by rw [h8]; rfl
  have y0 := cZ O0 0;simp at y0;have HKL := hZ (show kb < w.heap.size /\ eb < w.heap.size from ⟨hkl, hel⟩);have HMD := hZ hmade;clear hW2 B2 O0 O1 hT hw heb hpl hns hs hD IH h8 hkl hel hmade;go_enter Tryz.func127, Tryz.ntmps127
  go_upto_region 1 with fail
  rw [<- HW.out];clear HW;go_upto_region 2 with fail
  clear y0 q8;have hH0 := KEEP.out W2.drew rfl ⟨_, _, HE2.out⟩
  refine AnyX.start (fun wx => (wx.cell? ⟨w.heap.size, 0, none⟩ = some (.int .i64 t.kind) /\ wx.cell? ⟨w.heap.size, 1, none⟩ = some (.string t.pkg) /\ wx.cell? ⟨w.heap.size, 2, none⟩ = some (.int .i64 t.major) /\ wx.cell? ⟨w.heap.size, 3, none⟩ = some (.string t.mod) /\ wx.cell? ⟨w.heap.size, 4, none⟩ = some (.string t.name) /\ wx.cell? ⟨w.heap.size, 5, none⟩ = some (.slice Bn t.names.length cB) /\ wx.cell? ⟨w.heap.size, 6, none⟩ = some (.slice Bs t.subs.length dB)) /\
      wx.cell? ⟨eb, 0, none⟩ = some (.string m.name) /\ wx.cell? ⟨eb, 1, none⟩ = some (.slice Ai m.imps.length ci) /\ wx.cell? ⟨eb, 2, none⟩ = some (.slice Ad m.decs.length cd) /\ wx.cell? ⟨eb, 3, none⟩ = some (.string pkg) /\ wx.cell? ⟨eb, 4, none⟩ = some (.int .i64 major) /\ wx.cell? ⟨eb, 5, none⟩ = some (.slice Ae env.length ce) /\ wx.cell? ⟨eb, 6, none⟩ = some (.map (some kb))) (fun _ => false) (by kernel_rfl) ?_
  refine AnyX.mv (i := 0) (v := ?_) rfl (fun _ _ _ h => h) (Or.inl ⟨by rfl, ?_⟩) ?_;rotate_left
  · (intro wS _; go_simp; try with_reducible rfl)
  simp only [getElem_toArray, getElem_cons_succ, getElem_cons_zero];simp only [Act.put, setIfInBounds_toArray, set_cons_zero, set_cons_succ];refine AnyX.mv (i := 1) (v := ?_) rfl (fun _ _ _ h => h) (Or.inl ⟨by rfl, ?_⟩) ?_;rotate_left
  · (intro wS _; go_simp; try with_reducible rfl)
  simp only [getElem_toArray, getElem_cons_succ, getElem_cons_zero];simp only [Act.put, setIfInBounds_toArray, set_cons_zero, set_cons_succ];refine AnyX.mv (i := 2) (v := ?_) rfl (fun _ _ _ h => h) (Or.inl ⟨by rfl, ?_⟩) ?_;rotate_left
  · (intro wS _; go_simp; try with_reducible rfl)
  simp only [getElem_toArray, getElem_cons_succ, getElem_cons_zero];simp only [Act.put, setIfInBounds_toArray, set_cons_zero, set_cons_succ];refine AnyX.mv (i := 3) (v := ?_) rfl (fun _ _ _ h => h) (Or.inl ⟨by rfl, ?_⟩) ?_;rotate_left
  · (intro wS _; go_simp; try with_reducible rfl)
  simp only [getElem_toArray, getElem_cons_succ, getElem_cons_zero];simp only [Act.put, setIfInBounds_toArray, set_cons_zero, set_cons_succ];refine AnyX.tk (i := 4) (v := ?_) rfl (fun _ _ _ h => h) hH0 (Or.inl ⟨by rfl, ?_⟩) ?_;rotate_left
  · (intro wS hS; (try obtain ⟨⟨x0, x1, x2, x3, x4, x5, x6⟩, n0, n1, n2, n3, n4, n5, n6⟩ := hS); go_simp; try with_reducible rfl)
  simp only [getElem_toArray, getElem_cons_succ, getElem_cons_zero];simp only [Act.put, setIfInBounds_toArray, set_cons_zero, set_cons_succ];refine AnyX.tk (i := 5) (v := ?_) rfl (fun _ _ _ h => h) hH0 (Or.inl ⟨by rfl, ?_⟩) ?_;rotate_left
  · (intro wS hS; (try obtain ⟨⟨x0, x1, x2, x3, x4, x5, x6⟩, n0, n1, n2, n3, n4, n5, n6⟩ := hS); go_simp; try with_reducible rfl)
  simp only [getElem_toArray, getElem_cons_succ, getElem_cons_zero];simp only [Act.put, setIfInBounds_toArray, set_cons_zero, set_cons_succ];refine AnyX.mv (i := 8) (v := ?_) rfl (fun _ _ _ h => h) (Or.inl ⟨by rfl, ?_⟩) ?_;rotate_left
  · (intro wS _; go_simp; try with_reducible rfl)
  simp only [getElem_toArray, getElem_cons_succ, getElem_cons_zero];simp only [Act.put, setIfInBounds_toArray, set_cons_zero, set_cons_succ];refine AnyX.go 6 (by kernel_rfl) rfl rfl (fun K hK => ?_);simp only [getElem_toArray, getElem_cons_succ, getElem_cons_zero];go_simp
  refine CM.out.mono ?_;rintro e w5 ⟨l7, rfl, hL, hm5, hg5⟩;obtain ⟨Dn, dn, Ds, ds, rfl, -⟩ := (hL w0 (Below.refl _ _)).parts;have hfd : ∀ wz : World, (Instr.field 194 (.agg #[.int .i64 D.1.kind, .string D.1.pkg, .int .i64 D.1.major, .string D.1.mod, .string D.1.name, .slice Dn D.1.names.length dn, .slice Ds D.1.subs.length ds, .int .i64 D.2]) 0).run Tryz.prog wz = .ok (.agg #[.int .i64 D.1.kind, .string D.1.pkg, .int .i64 D.1.major, .string D.1.mod, .string D.1.name, .slice Dn D.1.names.length dn, .slice Ds D.1.subs.length ds]) wz := fun _ => by kernel_rfl
  obtain ⟨hkl, hel⟩ := HKL.out;have hs5 : W2.heap.size <= w5.heap.size := hg5.size;have b5 : w5.heap[w.heap.size]? = W2.heap[w.heap.size]? := hg5.block _ (by show w.heap.size < W2.heap.size; omega) (fun e => by cases e; omega);have c5 : w5.heap[w.heap.size + 1]? = some (.cells #[.int .i64 0, .string ⟨#[]⟩, .int .i64 0, .string ⟨#[]⟩, .string ⟨#[]⟩, .slice none 0 0, .slice none 0 0] 50 (0, 0)) := (hg5.block _ (by show w.heap.size + 1 < W2.heap.size; omega) (fun e => absurd (Option.some.inj e) (by omega))).trans HO1.out;have e5 : w5.heap[eb]? = some (.cells #[.string m.name, .slice Ai m.imps.length ci, .slice Ad m.decs.length cd, .string pkg, .int .i64 major, .slice Ae env.length ce, .map (some kb), .int .i64 made, .bool lg] 163 (0, 0)) := (hg5.block _ (by show eb < W2.heap.size; omega) (fun e => absurd (Option.some.inj e) (by omega))).trans HE2.out;have G5 : Hid (Gr2 kb eb w w5) := hZ ((Gr2.of_below HB2.out).trans ((Gr2.of_below (Below.drew (Below.refl _ _))).trans (Gr2.of_grown hg5)));have B5 : Below w0.heap.size w0 w5 := below_grow (below_over HW0.out (Below.drew (Below.refl _ _))) hg5 hk0;have hlc := hL w0 (Below.refl _ _);rw [HD.out] at hlc;have CI := hZ (HIH.out made lg d [.int .i64 D.1.kind, .string D.1.pkg, .int .i64 D.1.major, .string D.1.mod, .string D.1.name, .slice Dn D.1.names.length dn, .slice Ds D.1.subs.length ds] w5 HMD.out hd1 hd2 (by rw [HD.out]; exact hlc) B5 (by omega) e5 hm5);have HE5 := hZ e5;have HC5 := hZ c5;have HB5 := hZ b5;have HS5 := hZ hs5;simp only [];refine hK.out _ _ (fun hoff _ => KEEP.out w5 b5 ⟨_, _, e5⟩) ?_;clear hK;(try simp only [Act.put, setIfInBounds_toArray, set_cons_zero, set_cons_succ]);clear hL hm5 hg5 e5 c5 b5 B5 hlc;refine AnyX.move (i := 7) (v := .agg #[.int .i64 D.1.kind, .string D.1.pkg, .int .i64 D.1.major, .string D.1.mod, .string D.1.name, .slice Dn D.1.names.length dn, .slice Ds D.1.subs.length ds]) rfl (by kernel_rfl) (by kernel_rfl) (by kernel_rfl) (by kernel_rfl) (fun _ _ _ h => h) (Or.inl ⟨by rfl, ?_⟩) ?_
  · (intro wS _; go_simp; try simp only [hfd, Result.andThen])
  simp only [getElem_toArray, getElem_cons_succ, getElem_cons_zero];simp only [Act.put, setIfInBounds_toArray, set_cons_zero, set_cons_succ];clear hfd;refine AnyX.go 9 (by kernel_rfl) rfl rfl (fun K hK => ?_);simp only [getElem_toArray, getElem_cons_succ, getElem_cons_zero];go_simp
  refine CI.out.mono ?_;rintro e w6 ⟨l', made', lg', rfl, ⟨v, hsh⟩, he6, hp6, hg6, hlg, hty⟩;obtain ⟨Vn, cV, Vs, dV, rfl⟩ := hsh;have hs6 := hg6.size;have b6 : w6.heap[w.heap.size]? = W2.heap[w.heap.size]? := (hg6.block _ (by omega) (by omega) (by omega)).trans HB5.out;have X6 : w6.heap[w.heap.size + 1]? = some (.cells #[.int .i64 0, .string ⟨#[]⟩, .int .i64 0, .string ⟨#[]⟩, .string ⟨#[]⟩, .slice none 0 0, .slice none 0 0] 50 (0, 0)) := (hg6.block _ (by omega) (by omega) (by omega)).trans HC5.out;have HX6 := hZ X6;have hH6 := KEEP.out w6 b6 ⟨_, _, he6⟩;have hH7 := KEEP.out (w6.setRow (w.heap.size + 1) #[.int .i64 v.kind, .string v.pkg, .int .i64 v.major, .string v.mod, .string v.name, .slice Vn v.names.length cV, .slice Vs v.subs.length dV]) ((setRow_other _ _ _ _ (by omega)).trans b6) ⟨_, _, (setRow_other _ _ _ _ (by omega)).trans he6⟩
  have FIN : Hid (XpOut w0 kb eb m pkg major env Ai ci Ad cd Ae ce made lg d u w (.returned (.agg #[.int .i64 v.kind, .string v.pkg, .int .i64 v.major, .string v.mod, .string v.name, .slice Vn v.names.length cV, .slice Vs v.subs.length dV])) (w6.setRow (w.heap.size + 1) #[.int .i64 v.kind, .string v.pkg, .int .i64 v.major, .string v.mod, .string v.name, .slice Vn v.names.length cV, .slice Vs v.subs.length dV])) := hZ (by
    refine ⟨[.int .i64 v.kind, .string v.pkg, .int .i64 v.major, .string v.mod, .string v.name, .slice Vn v.names.length cV, .slice Vs v.subs.length dV], made', lg', rfl, ⟨v, Vn, cV, Vs, dV, rfl⟩, (setRow_other _ _ _ _ (by omega)).trans he6, hp6.kept (setRow_other _ _ _ _ (by omega)), (G5.out.trans hg6).row (by omega) _, hlg, fun h => ⟨(hty h).1, ?_⟩⟩;have := HB2.out.size
    refine (hty h).2.move (by simp) fun b hb hS => ⟨by omega, setRow_other _ _ _ _ (by omega)⟩)
  clear CI hg6 hlg hty hp6;simp only [];refine hK.out _ _ (fun hoff _ => hH6) ?_;clear hK;(try simp only [Act.put, setIfInBounds_toArray, set_cons_zero, set_cons_succ]);refine AnyX.go 10 (by kernel_rfl) rfl rfl (fun K hK => ?_);simp only [getElem_toArray, getElem_cons_succ, getElem_cons_zero];refine wp_store_row 50 (.tmp 6) (.tmp 21) rfl (w.heap.size + 1) #[.int .i64 v.kind, .string v.pkg, .int .i64 v.major, .string v.mod, .string v.name, .slice Vn v.names.length cV, .slice Vs v.subs.length dV] rfl rfl _ _ X6 tySize rfl tyOne ?_;refine hK.out _ _ (fun hoff _ => hH7) ?_;clear hK;(try simp only [Act.put, setIfInBounds_toArray, set_cons_zero, set_cons_succ]);refine AnyX.done (by kernel_rfl) ?_ _;go_wp2_with fail
  exact ret_agg1 (fn := Tryz.f127) (vs := [.int .i64 v.kind, .string v.pkg, .int .i64 v.major, .string v.mod, .string v.name, .slice Vn v.names.length cV, .slice Vs v.subs.length dV]) (b := w.heap.size + 1) rfl rfl Tryz.underlying50 (by kernel_rfl) (cell7 (setRow_heap w6 (w.heap.size + 1) _ _ _ _ HX6.out)) rfl FIN.out
structure Hf (w0 : World) (lo g n k : Nat) (us ss : List Ty) (lg : Bool) (w : World) : Prop where
 g1 : lo <= g
 g2 : g < w.heap.size
 there : w.there g 0 (n * 7)
 new : lg = false -> ∀ i u, i < k -> us[i]? = some u -> ∃ l : List Value, (∀ q v, l[q]? = some v -> w.cell? ⟨g, i * 7 + q, none⟩ = some v) /\ TyAt (strike (fun b => (w0.heap.size <= b /\ b < lo) \/ b = g) w) l u
 old : ∀ i s, k <= i -> ss[i]? = some s -> ∃ l : List Value, TyAt w0 l s /\ ∀ q v, l[q]? = some v -> w.cell? ⟨g, i * 7 + q, none⟩ = some v
theorem Hf.keep {w0 : World} {lo g n k : Nat} {us ss : List Ty} {lg : Bool} {w w' : World} (h : Hf w0 lo g n k us ss lg w) (hz : w.heap.size <= w'.heap.size) (hb : ∀ b, (b < w0.heap.size \/ lo <= b) -> b < w.heap.size -> w'.heap[b]? = w.heap[b]?) : Hf w0 lo g n k us ss lg w' := by
 have eg := hb g (.inr h.g1) h.g2
 refine ⟨h.g1, Nat.lt_of_lt_of_le h.g2 hz, fun q hq => ?_, fun hl i u hi hu => ?_, fun i s hi hs => ?_⟩
 ·have := h.there q hq
  rw [World.cell?_of_block (w := w) (w' := w') (a := ⟨g, 0 + q, none⟩) eg, World.frozen?_of_block (w := w) (w' := w') (a := ⟨g, 0 + q, none⟩) eg];exact this
 ·obtain ⟨l, hc, hT⟩ := h.new hl i u hi hu
  exact ⟨l, fun q v hv => (World.cell?_of_block (w := w) (w' := w') (a := ⟨g, _, none⟩) eg).trans (hc q v hv), hT.move hz fun b hlt hS => ⟨hS, hb b (by omega) hlt⟩⟩
 ·obtain ⟨l, hT, hc⟩ := h.old i s hi hs
  exact ⟨l, hT, fun q v hv => (World.cell?_of_block (w := w) (w' := w') (a := ⟨g, _, none⟩) eg).trans (hc q v hv)⟩
theorem Hf.at {w0 : World} {lo g n k : Nat} {us ss : List Ty} {lg : Bool} {w : World} (h : Hf w0 lo g n k us ss lg w) (hk : k < n) : w.there g (k * 7) 7 := fun q hq => by
 have := h.there (k * 7 + q) (by omega)
 rw [Nat.zero_add] at this
 exact this
theorem Hf.put {w0 : World} {lo g n k B : Nat} {us ss : List Ty} {lg lg' : Bool} {w : World} {l : List Value} {v : Ty} (h : Hf w0 lo g n k us ss lg w) (hk : k < n) (hv : us[k]? = some v) (hl : l.length = 7) (hlg : lg' = false -> lg = false) (hT : lg' = false -> TyAt (strike (fun b => w0.heap.size <= b /\ b < B) w) l v) (hB : g < B) (hw0 : w0.heap.size <= lo) :
  Hf w0 lo g n (k + 1) us ss lg' (w.setCells g (k * 7) l) := by
 have ot : ∀ b, b < w.heap.size -> b ≠ g -> (w.setCells g (k * 7) l).heap[b]? = w.heap[b]? := fun b hb hne => World.heap_setCells_other w g (k * 7) l hb hne
 have hsz : (w.setCells g (k * 7) l).heap.size = w.heap.size := size_setCells g l _ w
 have hg1 := h.g1
 refine ⟨h.g1, by rw [hsz]; exact h.g2, World.there_setCells h.there _ _ _, fun hl' i u hi hu => ?_, fun i s hi hs => ?_⟩
 ·rcases Nat.lt_or_ge i k with c | c
  ·obtain ⟨l', hc, hT'⟩ := h.new (hlg hl') i u c hu
   have h7 := hT'.len;refine ⟨l', fun q x hx => ?_, hT'.move (by rw [hsz]; exact Nat.le_refl _) fun b hb hS => ⟨hS, ot b hb fun e => hS (.inr e)⟩⟩;have hq := (List.getElem?_eq_some_iff.1 hx).1;rw [World.cell?_setCells_out]
   ·exact hc q x hx
   ·intro _ _
    exact .inl (by show i * 7 + q < k * 7; omega)
  ·obtain rfl : i = k := by omega
   rw [hv] at hu;cases hu
   refine ⟨l, fun q x hx => ?_, (hT hl').move (by rw [hsz]; exact Nat.le_refl _) fun b hb hS => ⟨by omega, ot b hb (by omega)⟩⟩;have hq := (List.getElem?_eq_some_iff.1 hx).1;rw [World.cell?_setCells_in g l (i * 7) w (fun q hq => (h.at hk q (by omega)).1) q hq];rw [<- hx, List.getElem?_eq_getElem hq]
 ·obtain ⟨l', hT', hc⟩ := h.old i s (by omega) hs
  have h7 := hT'.len;refine ⟨l', hT', fun q x hx => ?_⟩;have hq := (List.getElem?_eq_some_iff.1 hx).1;rw [World.cell?_setCells_out]
  ·exact hc q x hx
  ·intro _ _
   exact .inr (by show k * 7 + l.length <= i * 7 + q; omega)
def lgAt (made d : Int) (us : List Ty) (k : Nat) : Bool := decide (500 < made + 1 + manyL (us.take k)) || decide (32 < d + deepL (us.take k))
theorem lg_zero {made d : Int} {us : List Ty} (h1 : made + 1 <= 500) (h2 : d <= 32) : lgAt made d us 0 = false := by
 unfold lgAt; simp [manyL, deepL]; omega
theorem lg_step {made d mk : Int} {us : List Ty} {k : Nat} {v : Ty} {lk : Bool} (hv : us[k]? = some v) (h : lk = lgAt made d us k) (hm : lk = false -> mk = made + 1 + manyL (us.take k)) : (lk || decide (500 < mk + many v) || decide (32 < d + 1 + deep v - 1)) = lgAt made d us (k + 1) := by
 have h1 := manyL_take us k v hv
 have h2 := deepL_take us k v hv
 unfold lgAt at h ⊢
 rw [h1, h2]
 cases lk with
 | true =>
  have h := h.symm;simp only [Bool.or_eq_true, decide_eq_true_eq] at h;simp only [Bool.true_or];symm
  simp only [Bool.or_eq_true, decide_eq_true_eq];rcases h with h | h
  ·exact .inl (by omega)
  ·exact .inr (by omega)
 | false =>
  have h := h.symm;simp only [Bool.or_eq_false_iff, decide_eq_false_iff_not] at h;have hm := hm rfl;subst hm;simp only [Bool.false_or];rw [Bool.eq_iff_iff];simp only [Bool.or_eq_true, decide_eq_true_eq];omega
theorem lg_end {made d : Int} {t : Ty} {us : List Ty} {k : Nat} (hk : us.length <= k) : lgAt made d us k = (decide (500 < made + many (Ty.withSubs t us)) || decide (32 < d + deep (Ty.withSubs t us) - 1)) := by
 unfold lgAt Ty.withSubs many deep
 rw [List.take_of_length_le hk]
 rw [Bool.eq_iff_iff]
 simp only [Bool.or_eq_true, decide_eq_true_eq]
 omega
structure XpI (w0 : World) (kb eb : Nat) (m : Mo) (pkg : ByteArray) (major : Int) (env : List If) (Ai : Option Addr) (ci : Nat) (Ad : Option Addr) (cd : Nat) (Ae : Option Addr) (ce : Nat) (w : World) (t : Ty) (us : List Ty) (made d : Int) (Bn : Option Addr) (cB : Nat) (A' : Option Addr) (n c' k : Nat) (wr : World) (mk : Int) (lk : Bool) : Prop where
 exp : wr.heap[eb]? = some (.cells #[.string m.name, .slice Ai m.imps.length ci, .slice Ad m.decs.length cd, .string pkg, .int .i64 major, .slice Ae env.length ce, .map (some kb), .int .i64 mk, .bool lk] 163 (0, 0))
 map : PlMap w0 wr kb m pkg major env
 grown : Gr2 kb eb w wr
 box : wr.heap[w.heap.size]? = some (.cells #[.int .i64 t.kind, .string t.pkg, .int .i64 t.major, .string t.mod, .string t.name, .slice Bn t.names.length cB, .slice A' n c'] 50 (0, 0))
 res : wr.heap[w.heap.size + 1]? = some (.cells #[.int .i64 0, .string ⟨#[]⟩, .int .i64 0, .string ⟨#[]⟩, .string ⟨#[]⟩, .slice none 0 0, .slice none 0 0] 50 (0, 0))
 lg : lk = lgAt made d us k
 made : lk = false -> mk = made + 1 + manyL (us.take k)
 rows : 0 < n -> ∃ g, A' = some ⟨g, 0, none⟩ /\ Hf w0 (w.heap.size + 2) g n k us t.subs lk wr
theorem xp_node (w0 : World) (kb eb : Nat) (m : Mo) (pkg : ByteArray) (major : Int) (env : List If) (Ai : Option Addr) (ci : Nat) (Ad : Option Addr) (cd : Nat) (Ae : Option Addr) (ce : Nat) (hns : NsAt w0 [.string m.name, .slice Ai m.imps.length ci, .slice Ad m.decs.length cd, .string pkg, .int .i64 major, .slice Ae env.length ce, .map (some kb)] m pkg major env kb) (hk0 : w0.heap.size <= kb) (he0 : w0.heap.size <= eb) (hke : kb ≠ eb) (t : Ty) (us : List Ty) (h8 : t.kind ≠ 8) (hlen : us.length = t.subs.length) (hz9 : t.subs.length <= 9000) (IH : ∀ (i : Nat) (s v : Ty), t.subs[i]? = some s -> us[i]? = some v -> XpCall w0 kb eb m pkg major env Ai ci Ad cd Ae ce s v) : XpCall w0 kb eb m pkg major env Ai ci Ad cd Ae ce t (Ty.withSubs t us) := by
 intro made lg d l w hmade hd1 hd2 hT hw hkl heb hpl
 have hel : eb < w.heap.size := (Array.getElem?_eq_some_iff.1 heb).1
 have HT := hZ hT
 obtain ⟨Bn, cB, Bs, dB, rfl, zp, zm, zn, zln, zls, hNA, hS⟩ := hT.parts
 have HSZ := hZ (show t.pkg.size <= 9223372036854775807 /\ t.mod.size <= 9223372036854775807 /\ t.name.size <= 9223372036854775807 /\ t.names.length <= 9223372036854775807 from ⟨zp, zm, zn, zln⟩)
 have HNA := hZ hNA
 obtain ⟨n, hn⟩ : ∃ n, n = t.subs.length := ⟨_, rfl⟩
 have HN := hZ hn
 obtain ⟨W2, hW2, B2, O0, O1, hl2⟩ := two_boxes w #[.int .i64 t.kind, .string t.pkg, .int .i64 t.major, .string t.mod, .string t.name, .slice Bn t.names.length cB, .slice Bs n dB] #[.int .i64 0, .string ⟨#[]⟩, .int .i64 0, .string ⟨#[]⟩, .string ⟨#[]⟩, .slice none 0 0, .slice none 0 0] 50 50
 have HB2 := hZ B2
 have HW := hZ hW2
 have e2 : W2.heap[eb]? = some (.cells #[.string m.name, .slice Ai m.imps.length ci, .slice Ad m.decs.length cd, .string pkg, .int .i64 major, .slice Ae env.length ce, .map (some kb), .int .i64 made, .bool lg] 163 (0, 0)) := (B2.block _ hel).trans heb
 obtain ⟨mw, hmw⟩ : ∃ mw, mw = IntKind.i64.wrap (made + 1) := ⟨_, rfl⟩
 have hwr : IntKind.i64.wrap (made + 1) = mw := hmw.symm
 have HMW : Hid (lg = false -> mw = made + 1 /\ 0 <= made /\ made <= 500) := hZ (fun h => by
  have := hmade h
  rw [hmw, IntKind.wrap_i64]; omega)
 obtain ⟨W3, hW3⟩ : ∃ W3, W3 = W2.setCell ⟨eb, 7, none⟩ (.int .i64 mw) := ⟨_, rfl⟩
 have e3 : W3.heap[eb]? = some (.cells #[.string m.name, .slice Ai m.imps.length ci, .slice Ad m.decs.length cd, .string pkg, .int .i64 major, .slice Ae env.length ce, .map (some kb), .int .i64 mw, .bool lg] 163 (0, 0)) := by rw [hW3]; exact Joins.block_setCell (i := 7) e2 (.int .i64 mw)
 have HW3 := hZ hW3
 have HE2 := hZ e2
 have HE3 := hZ e3
 have s2 := B2.size
 have G3 : Hid (Gr2 kb eb w W3) := hZ (by rw [hW3]; exact (Gr2.of_below B2).cell (.inl rfl) _)
 have ot3 : ∀ b, b ≠ eb -> W3.heap[b]? = W2.heap[b]? := fun b hb => by rw [hW3]; exact Below.heap_setCell _ _ _ _ hb
 have HP3 : Hid (PlMap w0 W3 kb m pkg major env) := hZ (hpl.kept ((ot3 kb hke).trans (B2.block _ hkl)))
 have HO3 : Hid (W3.heap[w.heap.size]? = some (.cells #[.int .i64 t.kind, .string t.pkg, .int .i64 t.major, .string t.mod, .string t.name, .slice Bn t.names.length cB, .slice Bs n dB] 50 (0, 0))) := hZ ((ot3 _ (by omega)).trans O0)
 have HC3 : Hid (W3.heap[w.heap.size + 1]? = some (.cells #[.int .i64 0, .string ⟨#[]⟩, .int .i64 0, .string ⟨#[]⟩, .string ⟨#[]⟩, .slice none 0 0, .slice none 0 0] 50 (0, 0))) := hZ ((ot3 _ (by omega)).trans O1)
 have HS3 : Hid (W3.heap.size = W2.heap.size /\ w.heap.size + 1 < W2.heap.size) := hZ ⟨by rw [hW3]; simp, hl2⟩
 have HW0 : Hid (Below w0.heap.size w0 w) := hZ hw
 have HKL := hZ (show kb < w.heap.size /\ eb < w.heap.size from ⟨hkl, hel⟩)
 have HSS := hZ hS
 have HIH := hZ IH
 have HLEN := hZ hlen
 have q8 : (t.kind == 8) = false := by simpa using h8
 have y0 := cZ O0 0
 have m7 := cZ e2 7
 have g7 := Lib.frozen_of_heap e2 7
 simp at y0 m7
 rw [<- hn] at zls hz9 ⊢
 clear hW2 hW3 B2 O0 O1 hT hw heb hpl hns hS hNA IH h8 hkl hel hmade e2 e3 hmw ot3 hlen s2 hl2 hn zp zm zn zln
 go_enter Tryz.func127, Tryz.ntmps127
 go_upto_region 1 with fail
 rw [<- HW.out]
 clear HW
 go_upto_region 4 with fail
 rw [<- HW3.out]
 clear y0 q8 m7 g7
 have z7 := cZ HE3.out 7
 have z8 := cZ HE3.out 8
 have f8 := Lib.frozen_of_heap HE3.out 8
 simp at z7 z8
 have mk4 : ∀ L : Bool, ∃ W4, W4 = W3.setCell ⟨eb, 8, none⟩ (.bool L) /\ Hid (W4.heap[eb]? = some (.cells #[.string m.name, .slice Ai m.imps.length ci, .slice Ad m.decs.length cd, .string pkg, .int .i64 major, .slice Ae env.length ce, .map (some kb), .int .i64 mw, .bool L] 163 (0, 0))) /\ Hid (W4.heap[w.heap.size]? = some (.cells #[.int .i64 t.kind, .string t.pkg, .int .i64 t.major, .string t.mod, .string t.name, .slice Bn t.names.length cB, .slice Bs n dB] 50 (0, 0))) /\ Hid (W4.heap[w.heap.size + 1]? = some (.cells #[.int .i64 0, .string ⟨#[]⟩, .int .i64 0, .string ⟨#[]⟩, .string ⟨#[]⟩, .slice none 0 0, .slice none 0 0] 50 (0, 0))) /\ Hid (PlMap w0 W4 kb m pkg major env) /\ Hid (Gr2 kb eb w W4) /\ Hid (W4.heap.size = W2.heap.size) := fun L => by
  obtain ⟨hkl, hel⟩ := HKL.out;exact ⟨_, rfl, hZ (Joins.block_setCell (i := 8) HE3.out (.bool L)), hZ ((Below.heap_setCell _ _ _ _ (by show w.heap.size ≠ eb; omega)).trans HO3.out), hZ ((Below.heap_setCell _ _ _ _ (by show w.heap.size + 1 ≠ eb; omega)).trans HC3.out), hZ (HP3.out.kept (Below.heap_setCell _ _ _ _ hke)), hZ (G3.out.cell (.inl rfl) _), hZ (by simp; exact HS3.out.1)⟩
 have stop : ∀ (L : Bool) (W4 : World), L = true -> (true = (lg || decide (500 < made + many (Ty.withSubs t us)) || decide (32 < d + deep (Ty.withSubs t us) - 1))) -> W4.heap[eb]? = some (.cells #[.string m.name, .slice Ai m.imps.length ci, .slice Ad m.decs.length cd, .string pkg, .int .i64 major, .slice Ae env.length ce, .map (some kb), .int .i64 mw, .bool L] 163 (0, 0)) -> PlMap w0 W4 kb m pkg major env -> Gr2 kb eb w W4 -> Hid (XpOut w0 kb eb m pkg major env Ai ci Ad cd Ae ce made lg d (Ty.withSubs t us) w (.returned (.agg #[.int .i64 0, .string ⟨#[]⟩, .int .i64 0, .string ⟨#[]⟩, .string ⟨#[]⟩, .slice none 0 0, .slice none 0 0])) (W4.setRow (w.heap.size + 1) #[.int .i64 0, .string ⟨#[]⟩, .int .i64 0, .string ⟨#[]⟩, .string ⟨#[]⟩, .slice none 0 0, .slice none 0 0])) := fun L W4 hL hlg he hp hg => hZ (by
  subst hL;obtain ⟨hkl, hel⟩ := HKL.out;exact ⟨[.int .i64 0, .string ⟨#[]⟩, .int .i64 0, .string ⟨#[]⟩, .string ⟨#[]⟩, .slice none 0 0, .slice none 0 0], mw, true, rfl, ⟨zTy, none, 0, none, 0, rfl⟩, (setRow_other _ _ _ _ (by omega)).trans he, hp.kept (setRow_other _ _ _ _ (by omega)), hg.row (by omega) _, hlg, fun h => by cases h⟩)
 have hmp := many_pos (Ty.withSubs t us)
 have hdp := deep_pos (Ty.withSubs t us)
 cases lg with
 | true =>
  obtain ⟨W4, hW4, HE4, -, HC4, HP4, G4, -⟩ := mk4 true;have HW4 := hZ hW4;have FIN := stop true W4 rfl (by simp) HE4.out HP4.out G4.out;clear hW4 mk4 stop hmp hdp;go_upto_region 5 with fail
  rw [<- HW4.out];clear z7 z8 f8 hwr HW4;have y8 := cZ HE4.out 8;simp at y8;have X5 := HC4.out;go_wp2_with (first | (((with_reducible refine wpList_putRow 50 (w.heap.size + 1) #[.int .i64 0, .string ⟨#[]⟩, .int .i64 0, .string ⟨#[]⟩, .string ⟨#[]⟩, .slice none 0 0, .slice none 0 0] _ _ X5 ?_ ?_ ?_ ?_ ?_ ?_); exact tySize; rfl; exact tyOne; iterate 2 (focus (first | (go_simp; done) | rfl)))))
  exact ret_agg1 (fn := Tryz.f127) (vs := [.int .i64 0, .string ⟨#[]⟩, .int .i64 0, .string ⟨#[]⟩, .string ⟨#[]⟩, .slice none 0 0, .slice none 0 0]) (b := w.heap.size + 1) rfl rfl Tryz.underlying50 (by kernel_rfl) (cell7 (setRow_heap W4 (w.heap.size + 1) _ _ _ _ HC4.out)) rfl FIN.out
 | false =>
  obtain ⟨hme, hm1, hm2⟩ := HMW.out rfl;by_cases h5 : 500 < mw
  ·obtain ⟨W4, hW4, HE4, -, HC4, HP4, G4, -⟩ := mk4 true
   have HW4 := hZ hW4
   have FIN := stop true W4 rfl (by
    rw [show decide (500 < made + many (Ty.withSubs t us)) = true from decide_eq_true (by omega)]; simp) HE4.out HP4.out G4.out
   clear hW4 mk4 stop hmp hdp hme;go_upto_region 5 with fail
   rw [<- HW4.out];clear z7 z8 f8 hwr HW4;have y8 := cZ HE4.out 8;simp at y8;have X5 := HC4.out;go_wp2_with (first | (((with_reducible refine wpList_putRow 50 (w.heap.size + 1) #[.int .i64 0, .string ⟨#[]⟩, .int .i64 0, .string ⟨#[]⟩, .string ⟨#[]⟩, .slice none 0 0, .slice none 0 0] _ _ X5 ?_ ?_ ?_ ?_ ?_ ?_); exact tySize; rfl; exact tyOne; iterate 2 (focus (first | (go_simp; done) | rfl)))))
   exact ret_agg1 (fn := Tryz.f127) (vs := [.int .i64 0, .string ⟨#[]⟩, .int .i64 0, .string ⟨#[]⟩, .string ⟨#[]⟩, .slice none 0 0, .slice none 0 0]) (b := w.heap.size + 1) rfl rfl Tryz.underlying50 (by kernel_rfl) (cell7 (setRow_heap W4 (w.heap.size + 1) _ _ _ _ HC4.out)) rfl FIN.out
  ·have h5' : decide (500 < mw) = false := decide_eq_false h5
   by_cases h3 : 32 < d
   ·obtain ⟨W4, hW4, HE4, -, HC4, HP4, G4, -⟩ := mk4 true
    have HW4 := hZ hW4
    have FIN := stop true W4 rfl (by
     rw [show decide (32 < d + deep (Ty.withSubs t us) - 1) = true from decide_eq_true (by omega)]; simp) HE4.out HP4.out G4.out
    clear hW4 mk4 stop hmp hdp hme;go_upto_region 5 with fail
    rw [<- HW4.out];clear z7 z8 f8 hwr HW4;have y8 := cZ HE4.out 8;simp at y8;have X5 := HC4.out;go_wp2_with (first | (((with_reducible refine wpList_putRow 50 (w.heap.size + 1) #[.int .i64 0, .string ⟨#[]⟩, .int .i64 0, .string ⟨#[]⟩, .string ⟨#[]⟩, .slice none 0 0, .slice none 0 0] _ _ X5 ?_ ?_ ?_ ?_ ?_ ?_); exact tySize; rfl; exact tyOne; iterate 2 (focus (first | (go_simp; done) | rfl)))))
    exact ret_agg1 (fn := Tryz.f127) (vs := [.int .i64 0, .string ⟨#[]⟩, .int .i64 0, .string ⟨#[]⟩, .string ⟨#[]⟩, .slice none 0 0, .slice none 0 0]) (b := w.heap.size + 1) rfl rfl Tryz.underlying50 (by kernel_rfl) (cell7 (setRow_heap W4 (w.heap.size + 1) _ _ _ _ HC4.out)) rfl FIN.out
   ·have h3' : decide (32 < d) = false := decide_eq_false h3
    obtain ⟨W4, hW4, HE4, HO4, HC4, HP4, G4, HS4⟩ := mk4 false;have HW4 := hZ hW4;have HME := hZ hme;have H5 := hZ h5;clear hW4 mk4 stop hmp hdp hme;go_upto_region 5 with fail
    rw [<- HW4.out];clear z7 z8 f8 hwr HW4 h5 h5' h3';have x8 := cZ HE4.out 8;have x6 := cZ HO4.out 6;simp at x8 x6;have CN := hZ (cloneT_any w0 W4 Bs n dB t.subs HN.out.symm hz9 HSS.out (Gr2.base HW0.out G4.out hk0 he0));go_wp2_with fail
    refine CN.out.mono ?_; rintro e w5 ⟨A', c', rfl, hc', hb5, hrow⟩
    obtain ⟨hkl, hel⟩ := HKL.out;have hs4 := HS4.out;have hs2 := HS3.out.2;have hs5 := hb5.size;have O5 : w5.heap[w.heap.size]? = some (.cells #[.int .i64 t.kind, .string t.pkg, .int .i64 t.major, .string t.mod, .string t.name, .slice Bn t.names.length cB, .slice Bs n dB] 50 (0, 0)) := (hb5.block _ (by omega)).trans HO4.out;have y6 := cZ O5 6;have g6 := Lib.frozen_of_heap O5 6;simp at y6;obtain ⟨W6, hW6⟩ : ∃ W6, W6 = w5.setCell ⟨w.heap.size, 6, none⟩ (.slice A' n c') := ⟨_, rfl⟩;have ot6 : ∀ b, b ≠ w.heap.size -> W6.heap[b]? = w5.heap[b]? := fun b hb => by rw [hW6]; exact Below.heap_setCell _ _ _ _ hb
    have O6 : W6.heap[w.heap.size]? = some (.cells #[.int .i64 t.kind, .string t.pkg, .int .i64 t.major, .string t.mod, .string t.name, .slice Bn t.names.length cB, .slice A' n c'] 50 (0, 0)) := by rw [hW6]; exact Joins.block_setCell (i := 6) O5 (.slice A' n c')
    have hs6 : W6.heap.size = w5.heap.size := by rw [hW6]; simp
    have START : Hid (XpI w0 kb eb m pkg major env Ai ci Ad cd Ae ce w t us made d Bn cB A' n c' 0 W6 mw false) := hZ (by
     refine ⟨((ot6 _ (by omega)).trans (hb5.block _ (by omega))).trans HE4.out, HP4.out.kept ((ot6 _ (by omega)).trans (hb5.block _ (by omega))), by rw [hW6]; exact (G4.out.trans (Gr2.of_below hb5)).cell (.inr (Nat.le_refl _)) _, O6, ((ot6 _ (by omega)).trans (hb5.block _ (by omega))).trans HC4.out, (lg_zero (by have h1 := HME.out; have h2 := H5.out; omega) (by omega)).symm, fun _ => by rw [HME.out]; simp [manyL], fun h0 => ?_⟩;obtain ⟨g, hA, hg1, hg2, hth, hold⟩ := hrow h0;refine ⟨g, hA, Hf.keep (w := w5) ⟨by omega, hg2, hth, fun _ i u hi => by omega, fun i s _ hs => hold i s hs⟩ (by omega) fun b hb _ => ot6 b (by have := HW0.out.size; omega)⟩)
    have HW6 := hZ hW6;have HO6 := hZ O6;have hd32 : d <= 32 := by omega
    have wrd : IntKind.i64.wrap (d + 1) = d + 1 := by rw [IntKind.wrap_i64]; omega
    have HCC := hZ hc';clear hW6 ot6 O6 O5 hrow hb5 CN x8 x6 HE4 HO4 HC4 HP4 G4 HS4 hs4 hs5 hs6 HE3 HO3 HC3 HP3 G3 HW3 hkl hel hc';go_upto_region 8 with fail
    rw [<- HW6.out];clear y6 g6;have y6 := cZ HO6.out 6;simp at y6;go_wp2_with fail
    clear y6 HW6 HO6;go_loopw [59] (fun s59 wr => ∃ k : Nat, k <= n /\ s59 = .int .i64 k /\ Hid (∃ (mk : Int) (lk : Bool), XpI w0 kb eb m pkg major env Ai ci Ad cd Ae ce w t us made d Bn cB A' n c' k wr mk lk)) (fun s59 _ => n - (intOf s59).toNat)
    case atStart => exact ⟨0, by omega, rfl, hZ ⟨_, _, START.out⟩⟩
    case round =>
     obtain ⟨k, hk, rfl, HI⟩ := hrel;obtain ⟨wo, rfl⟩ : ∃ wo : World, wo = wr := ⟨_, rfl⟩;obtain ⟨mk, lk, I⟩ := HI.out;obtain ⟨hkl, hel⟩ := HKL.out;have hgs := I.grown.size;clear START;by_cases hlt : k < n
     ·obtain ⟨g, rfl, hf⟩ := I.rows (by omega)
      obtain ⟨s, hs⟩ : ∃ s, t.subs[k]? = some s := ⟨_, List.getElem?_eq_getElem (by rw [<- HN.out]; exact hlt)⟩;obtain ⟨v, hv⟩ : ∃ v, us[k]? = some v := ⟨_, List.getElem?_eq_getElem (by rw [HLEN.out, <- HN.out]; exact hlt)⟩;obtain ⟨l0, hT0, hc0⟩ := hf.old k s (Nat.le_refl _) hs;obtain ⟨Cn, cC, Cs, dC, rfl, -⟩ := hT0.parts;have c0 : wo.cell? ⟨g, k * 7, none⟩ = some (.int .i64 s.kind) := hc0 0 _ rfl;have c1 : wo.cell? ⟨g, k * 7 + 1, none⟩ = some (.string s.pkg) := hc0 1 _ rfl;have c2 : wo.cell? ⟨g, k * 7 + 2, none⟩ = some (.int .i64 s.major) := hc0 2 _ rfl;have c3 : wo.cell? ⟨g, k * 7 + 3, none⟩ = some (.string s.mod) := hc0 3 _ rfl;have c4 : wo.cell? ⟨g, k * 7 + 4, none⟩ = some (.string s.name) := hc0 4 _ rfl;have c5 : wo.cell? ⟨g, k * 7 + 5, none⟩ = some (.slice Cn s.names.length cC) := hc0 5 _ rfl;have c6 : wo.cell? ⟨g, k * 7 + 6, none⟩ = some (.slice Cs s.subs.length dC) := hc0 6 _ rfl;obtain ⟨w8, hw8⟩ : ∃ w8, w8 = wo.alloc (.cells #[.int .i64 s.kind, .string s.pkg, .int .i64 s.major, .string s.mod, .string s.name, .slice Cn s.names.length cC, .slice Cs s.subs.length dC] 50) := ⟨_, rfl⟩;have B8 : Below wo.heap.size wo w8 := by rw [hw8]; exact below_new (Below.refl _ _) _
      have Y8 : w8.heap[wo.heap.size]? = some (.cells #[.int .i64 s.kind, .string s.pkg, .int .i64 s.major, .string s.mod, .string s.name, .slice Cn s.names.length cC, .slice Cs s.subs.length dC] 50 (0, 0)) := by rw [hw8]; exact heap_alloc_new wo _
      have s8 : w8.heap.size = wo.heap.size + 1 := by rw [hw8]; simp
      have hwo : w.heap.size + 1 < wo.heap.size := (Array.getElem?_eq_some_iff.1 I.res).1;have X8 : w8.heap[w.heap.size]? = some (.cells #[.int .i64 t.kind, .string t.pkg, .int .i64 t.major, .string t.mod, .string t.name, .slice Bn t.names.length cB, .slice (some ⟨g, 0, none⟩) n c'] 50 (0, 0)) := (B8.block _ (by omega)).trans I.box
      have KEEP : Hid (∀ wx : World, wx.heap[w.heap.size]? = w8.heap[w.heap.size]? -> wx.heap[wo.heap.size]? = w8.heap[wo.heap.size]? -> wx.cell? ⟨w.heap.size, 6, none⟩ = some (.slice (some ⟨g, 0, none⟩) n c') /\ wx.cell? ⟨wo.heap.size, 0, none⟩ = some (.int .i64 s.kind) /\ wx.cell? ⟨wo.heap.size, 1, none⟩ = some (.string s.pkg) /\ wx.cell? ⟨wo.heap.size, 2, none⟩ = some (.int .i64 s.major) /\ wx.cell? ⟨wo.heap.size, 3, none⟩ = some (.string s.mod) /\ wx.cell? ⟨wo.heap.size, 4, none⟩ = some (.string s.name) /\ wx.cell? ⟨wo.heap.size, 5, none⟩ = some (.slice Cn s.names.length cC) /\ wx.cell? ⟨wo.heap.size, 6, none⟩ = some (.slice Cs s.subs.length dC)) := hZ (fun wx h1 h2 => by
       have Z0 := h1.trans X8;have Z1 := h2.trans Y8;exact ⟨cZ Z0 6, cZ Z1 0, cZ Z1 1, cZ Z1 2, cZ Z1 3, cZ Z1 4, cZ Z1 5, cZ Z1 6⟩)
      have BW : Below w0.heap.size w0 w8 := Gr2.base (Gr2.base HW0.out I.grown hk0 he0) (Gr2.of_below (kb := kb) (eb := eb) B8) hk0 he0;have hlgk := I.lg;have hmdk := I.made
      have CL := hZ (HIH.out k s v hs hv mk lk (d + 1) _ w8.drew (fun h => by
       have h2 := hmdk h;rw [h] at hlgk;have h3 := hlgk.symm;unfold lgAt at h3
       simp only [Bool.or_eq_false_iff, decide_eq_false_iff_not] at h3;omega) (by omega) (by omega) hT0 (below_over BW (Below.drew (Below.refl _ _))) (by show kb < w8.heap.size; omega) ((B8.block _ (by omega)).trans I.exp) (I.map.kept (B8.block _ (by omega))))
      have HHF := hZ hf;have HII := hZ I;have HB8 := hZ B8;have HW8 := hZ hw8;have HV := hZ hv;have hk0' : (0 : Int) <= k := by omega
      have hk1 : (k : Int) < n := by omega
      clear hs hT0 hc0 hw8 B8 Y8 X8 BW hlgk hmdk hf I hv;go_upto_region 11 with fail
      rw [<- HW8.out];clear c0 c1 c2 c3 c4 c5 c6;have hH0 := KEEP.out w8.drew rfl rfl;refine AnyX.start (fun wx => wx.cell? ⟨w.heap.size, 6, none⟩ = some (.slice (some ⟨g, 0, none⟩) n c') /\ wx.cell? ⟨wo.heap.size, 0, none⟩ = some (.int .i64 s.kind) /\ wx.cell? ⟨wo.heap.size, 1, none⟩ = some (.string s.pkg) /\ wx.cell? ⟨wo.heap.size, 2, none⟩ = some (.int .i64 s.major) /\ wx.cell? ⟨wo.heap.size, 3, none⟩ = some (.string s.mod) /\ wx.cell? ⟨wo.heap.size, 4, none⟩ = some (.string s.name) /\ wx.cell? ⟨wo.heap.size, 5, none⟩ = some (.slice Cn s.names.length cC) /\ wx.cell? ⟨wo.heap.size, 6, none⟩ = some (.slice Cs s.subs.length dC)) (fun _ => false) (by kernel_rfl) ?_;refine AnyX.mv (i := 0) (v := ?_) rfl (fun _ _ _ h => h) (Or.inl ⟨by rfl, ?_⟩) ?_;rotate_left
      ·(intro wS _; go_simp; try with_reducible rfl)
      simp only [getElem_toArray, getElem_cons_succ, getElem_cons_zero];simp only [Act.put, setIfInBounds_toArray, set_cons_zero, set_cons_succ];refine AnyX.tk (i := 1) (v := ?_) rfl (fun _ _ _ h => h) hH0 (Or.inl ⟨by rfl, ?_⟩) ?_;rotate_left
      ·(intro wS hS; (try obtain ⟨b6, x0, x1, x2, x3, x4, x5, x6⟩ := hS); go_simp; try with_reducible rfl)
      simp only [getElem_toArray, getElem_cons_succ, getElem_cons_zero];simp only [Act.put, setIfInBounds_toArray, set_cons_zero, set_cons_succ];refine AnyX.mv (i := 2) (v := ?_) rfl (fun _ _ _ h => h) (Or.inl ⟨by rfl, ?_⟩) ?_;rotate_left
      ·(intro wS _; go_simp; try with_reducible rfl)
      simp only [getElem_toArray, getElem_cons_succ, getElem_cons_zero];simp only [Act.put, setIfInBounds_toArray, set_cons_zero, set_cons_succ];refine AnyX.mv (i := 3) (v := ?_) rfl (fun _ _ _ h => h) (Or.inl ⟨by rfl, ?_⟩) ?_;rotate_left
      ·(intro wS _; go_simp; try with_reducible rfl)
      simp only [getElem_toArray, getElem_cons_succ, getElem_cons_zero];simp only [Act.put, setIfInBounds_toArray, set_cons_zero, set_cons_succ];refine AnyX.tk (i := 4) (v := ?_) rfl (fun _ _ _ h => h) hH0 (Or.inl ⟨by rfl, ?_⟩) ?_;rotate_left
      ·(intro wS hS; (try obtain ⟨b6, x0, x1, x2, x3, x4, x5, x6⟩ := hS); go_simp; try with_reducible rfl)
      simp only [getElem_toArray, getElem_cons_succ, getElem_cons_zero];simp only [Act.put, setIfInBounds_toArray, set_cons_zero, set_cons_succ];refine AnyX.mv (i := 5) (v := ?_) rfl (fun _ _ _ h => h) (Or.inl ⟨by rfl, ?_⟩) ?_;rotate_left
      ·(intro wS _; go_simp; try with_reducible rfl)
      simp only [getElem_toArray, getElem_cons_succ, getElem_cons_zero];simp only [Act.put, setIfInBounds_toArray, set_cons_zero, set_cons_succ];refine AnyX.mv (i := 6) (v := ?_) rfl (fun _ _ _ h => h) (Or.inl ⟨by rfl, ?_⟩) ?_;rotate_left
      ·(intro wS _; go_simp; try with_reducible rfl)
      simp only [getElem_toArray, getElem_cons_succ, getElem_cons_zero];simp only [Act.put, setIfInBounds_toArray, set_cons_zero, set_cons_succ];refine AnyX.go 7 (by kernel_rfl) rfl rfl (fun K hK => ?_);simp only [getElem_toArray, getElem_cons_succ, getElem_cons_zero];go_simp
      refine CL.out.mono ?_;rintro e w9 ⟨l', made', lg', rfl, ⟨v', hsh⟩, he9, hp9, hg9, hlg, hty⟩;obtain ⟨Vn, cV, Vs, dV, rfl⟩ := hsh;have hgI := HHF.out.g2;have hgI1 := HHF.out.g1;have hs9 : w8.heap.size <= w9.heap.size := hg9.size;have b1 : w9.heap[w.heap.size]? = w8.heap[w.heap.size]? := hg9.block _ (by show w.heap.size < w8.heap.size; omega) (by omega) (by omega);have b2 : w9.heap[wo.heap.size]? = w8.heap[wo.heap.size]? := hg9.block _ (by show wo.heap.size < w8.heap.size; omega) (by omega) (by omega);have hH9 := KEEP.out w9 b1 b2;have F9 : Hf w0 (w.heap.size + 2) g n k us t.subs lk w9 := HHF.out.keep (by omega) fun b hb hlt => (hg9.block b (by show b < w8.heap.size; omega) (by omega) (by omega)).trans (HB8.out.block b hlt)
      have HT9 := F9.at hlt;obtain ⟨w10, hw10⟩ : ∃ w10, w10 = w9.setCells g (k * 7) [.int .i64 v'.kind, .string v'.pkg, .int .i64 v'.major, .string v'.mod, .string v'.name, .slice Vn v'.names.length cV, .slice Vs v'.subs.length dV] := ⟨_, rfl⟩;have ot : ∀ b, b < w9.heap.size -> b ≠ g -> w10.heap[b]? = w9.heap[b]? := fun b hb hne => by rw [hw10]; exact World.heap_setCells_other w9 g _ _ hb hne
      have NEXT : Hid (∃ (mk : Int) (lk : Bool), XpI w0 kb eb m pkg major env Ai ci Ad cd Ae ce w t us made d Bn cB (some ⟨g, 0, none⟩) n c' (k + 1) w10 mk lk) := hZ (by
       refine ⟨made', lg', (ot _ (by omega) (by omega)).trans he9, hp9.kept (ot _ (by omega) (by omega)), by rw [hw10]; exact ((HII.out.grown.trans (Gr2.of_below HB8.out)).trans ((Gr2.of_below (Below.drew (Below.refl _ _))).trans hg9)).cells (by omega) _ _, ((ot _ (by omega) (by omega)).trans b1).trans ((HB8.out.block _ (by omega)).trans HII.out.box), ((ot _ (by omega) (by omega)).trans (hg9.block _ (by show w.heap.size + 1 < w8.heap.size; omega) (by omega) (by omega))).trans ((HB8.out.block _ (by omega)).trans HII.out.res), ?_, fun h => ?_, fun _ => ⟨g, rfl, ?_⟩⟩
       ·rw [hlg]; exact lg_step HV.out HII.out.lg HII.out.made
       ·have h1 := (hty h).1
        rw [h] at hlg;have h2 := hlg.symm;simp only [Bool.or_eq_false_iff] at h2;have h3 := HII.out.made h2.1.1;have h4 := manyL_take us k v HV.out;rw [h1, h3, h4]; omega
       ·rw [hw10]
        refine F9.put hlt HV.out rfl (fun h => ?_) (fun h => (hty h).2) (by show g < w8.heap.size; omega) (by have := HW0.out.size; omega);rw [h] at hlg;have h2 := hlg.symm;simp only [Bool.or_eq_false_iff] at h2;exact h2.1.1)
      have hH10 := KEEP.out w10 ((ot _ (by omega) (by omega)).trans b1) ((ot _ (by omega) (by omega)).trans b2);have HW10 := hZ hw10;clear CL hg9 hlg hty hp9 he9 F9 ot b1 b2 hw10;simp only [];refine hK.out _ _ (fun hoff _ => hH9) ?_;clear hK;(try simp only [Act.put, setIfInBounds_toArray, set_cons_zero, set_cons_succ]);refine AnyX.mv (i := 8) (v := ?_) rfl (fun _ _ _ h => h) (Or.inl ⟨by rfl, ?_⟩) ?_;rotate_left
      ·(intro wS _; go_simp; try with_reducible rfl)
      simp only [getElem_toArray, getElem_cons_succ, getElem_cons_zero];simp only [Act.put, setIfInBounds_toArray, set_cons_zero, set_cons_succ];refine AnyX.go 9 (by kernel_rfl) rfl rfl (fun K hK => ?_);simp only [getElem_toArray, getElem_cons_succ, getElem_cons_zero];refine wp_store_mid 50 (.tmp 72) (.tmp 71) rfl g (k * 7) #[.int .i64 v'.kind, .string v'.pkg, .int .i64 v'.major, .string v'.mod, .string v'.name, .slice Vn v'.names.length cV, .slice Vs v'.subs.length dV] rfl rfl HT9 tySize tyOne ?_;rw [<- HW10.out];refine hK.out _ _ (fun hoff _ => hH10) ?_;clear hK;(try simp only [Act.put, setIfInBounds_toArray, set_cons_zero, set_cons_succ]);refine AnyX.done (by kernel_rfl) ?_ _;clear HT9 hH0 hH9 hH10;go_wp2_with fail
      go_roundw
      case rel => exact ⟨k + 1, by omega, by go_num, NEXT⟩
      case measure => simp [intOf]; omega
     ·have hkn : k = n := by omega
      have X0 := I.box;have hwo : w.heap.size + 1 < wo.heap.size := (Array.getElem?_eq_some_iff.1 I.res).1
      have FIN : Hid (XpOut w0 kb eb m pkg major env Ai ci Ad cd Ae ce made false d (Ty.withSubs t us) w (.returned (.agg #[.int .i64 t.kind, .string t.pkg, .int .i64 t.major, .string t.mod, .string t.name, .slice Bn t.names.length cB, .slice A' n c'])) (wo.setRow (w.heap.size + 1) #[.int .i64 t.kind, .string t.pkg, .int .i64 t.major, .string t.mod, .string t.name, .slice Bn t.names.length cB, .slice A' n c'])) := hZ (by
       have eu : (Ty.withSubs t us).subs.length = n := by show us.length = n; rw [HLEN.out, HN.out]
       refine ⟨[.int .i64 t.kind, .string t.pkg, .int .i64 t.major, .string t.mod, .string t.name, .slice Bn t.names.length cB, .slice A' n c'], mk, lk, rfl, ⟨Ty.withSubs t us, Bn, cB, A', c', ?_⟩, (setRow_other _ _ _ _ (by omega)).trans I.exp, I.map.kept (setRow_other _ _ _ _ (by omega)), I.grown.row (by omega) _, ?_, fun h => ⟨?_, ?_⟩⟩
       ·rw [eu]; rfl
       ·rw [I.lg, lg_end (t := t) (by rw [HLEN.out, <- HN.out]; omega)]; simp
       ·have h1 := I.made h
        rw [List.take_of_length_le (by rw [HLEN.out, <- HN.out]; omega)] at h1;have h2 : many (Ty.withSubs t us) = 1 + manyL us := by unfold Ty.withSubs; rw [many]
        rw [h1, h2]; omega
       ·obtain ⟨z1, z2, z3, z4⟩ := HSZ.out
        have hw0 := HW0.out.size
        have T := ty_made (w := strike (fun b => w0.heap.size <= b /\ b < w.heap.size) (wo.setRow (w.heap.size + 1) #[.int .i64 t.kind, .string t.pkg, .int .i64 t.major, .string t.mod, .string t.name, .slice Bn t.names.length cB, .slice A' n c'])) (t := Ty.withSubs t us) (An := Bn) (As := A') (cn := cB) (cs := c') z1 z2 z3 z4 (by rw [eu]; omega) (by rw [eu]; exact HCC.out)
         (names_base (w := wo.setRow (w.heap.size + 1) #[.int .i64 t.kind, .string t.pkg, .int .i64 t.major, .string t.mod, .string t.name, .slice Bn t.names.length cB, .slice A' n c']) HNA.out (Gr2.base HW0.out (I.grown.row (by omega) _) hk0 he0) (fun b hb => hb.1))
         (fun i x hx => by
          have hx' : us[i]? = some x := hx
          have hi := (List.getElem?_eq_some_iff.1 hx').1;rw [HLEN.out, <- HN.out] at hi;obtain ⟨g, hA, hf⟩ := I.rows (by omega);obtain ⟨l, hc, hT⟩ := hf.new h i x (by omega) hx';have hg1 := hf.g1;refine ⟨g, 0, l, hA, by rw [strike_size]; simp; exact hf.g2, fun q y hy => strike_cell.2 ⟨by omega, ?_⟩, hT.move (by simp) fun b hb hS => ⟨by omega, setRow_other _ _ _ _ (by omega)⟩⟩;rw [Nat.zero_add];exact (World.cell?_of_block (w := wo) (a := ⟨g, _, none⟩) (setRow_other _ _ _ _ (show g ≠ w.heap.size + 1 by omega))).trans (hc q y hy))
        rw [eu] at T;exact T)
      have X5 := I.res;have HX5 := hZ X5;obtain ⟨x0, x1, x2, x3, x4, x5, x6⟩ := cq7 X0;simp at x0 x1 x2 x3 x4 x5 x6;clear I HI X0 hkn;go_wp2_with (first | (((with_reducible refine wpList_putRow 50 (w.heap.size + 1) #[.int .i64 t.kind, .string t.pkg, .int .i64 t.major, .string t.mod, .string t.name, .slice Bn t.names.length cB, .slice A' n c'] _ _ X5 ?_ ?_ ?_ ?_ ?_ ?_); exact tySize; rfl; exact tyOne; iterate 2 (focus (first | (go_simp; done) | rfl)))))
      exact ret_agg1 (fn := Tryz.f127) (vs := [.int .i64 t.kind, .string t.pkg, .int .i64 t.major, .string t.mod, .string t.name, .slice Bn t.names.length cB, .slice A' n c']) (b := w.heap.size + 1) rfl rfl Tryz.underlying50 (by kernel_rfl) (cell7 (setRow_heap wo (w.heap.size + 1) _ _ _ _ HX5.out)) rfl FIN.out
end Go.Proofs.YtddlmigofilejaaGreat
