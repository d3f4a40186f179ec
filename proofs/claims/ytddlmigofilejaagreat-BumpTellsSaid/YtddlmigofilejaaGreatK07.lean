/-
  Several texts in one.
-/
import Derived.Test.YtddlmigofilejaaGreatK06
import Derived.DeepKeys3
import Derived.Carry
set_option maxRecDepth 100000
set_option maxHeartbeats 8000000
namespace Go.Proofs.YtddlmigofilejaaGreat
open Go.RowKit
open M
structure Ok7 (m : Mo) : Prop where
  imp : ∀ i, i < m.imps.length -> dupB (·.asn) m.imps i = false
  dec : ∀ i, i < m.decs.length -> dupB (·.name) m.decs i = false
  whole : ∀ (i : Nat) (d : De), m.decs[i]? = some d -> wholeT m d.typ = true
  circ : ∀ (i : Nat) (d : De), m.decs[i]? = some d -> ¬ Reach (entries m) (saidT m d.typ) i
  hid : ∀ (i j : Nat) (d e : De), m.decs[i]? = some d -> m.decs[j]? = some e -> Reach (entries m) (saidT m d.typ) j -> e.kind ≠ 2
structure Emb (f : Nat -> Nat) (m' m : Mo) : Prop where
  imps : m'.imps = m.imps
  dec : ∀ (i : Nat) (d : De), m'.decs[i]? = some d -> m.decs[f i]? = some d
  inj : ∀ i j, i < m'.decs.length -> j < m'.decs.length -> f i = f j -> i = j
  sur : ∀ (i : Nat) (d : De), m.decs[i]? = some d -> d.kind ≠ 4 -> ∃ j, j < m'.decs.length /\ f j = i
section
variable {f : Nat -> Nat} {m' m : Mo}
end
mutual
def locT : Ty -> List Ty
  | .mk k p j d n ns ss => if k = 8 then .mk k p j d n ns ss :: locL ss else locL ss
def locL : List Ty -> List Ty
  | [] => []
  | t :: r => locT t ++ locL r
end
def oneN (m : Mo) (x : Ty) : List Nat := if x.mod.size = 0 then (typAt m x.name).toList else []
structure Rch (m : Mo) (t : Ty) (F : Nat -> Bool) (L : List Ty) : Prop where
  only : ∀ i, F i = true -> Reach (entries m) (saidT m t) i
  says : ∀ x ∈ L, ∀ i ∈ oneN m x, Reach (entries m) (saidT m t) i
  own : ∀ x ∈ locT t, x ∈ L
  on : ∀ (k : Nat) (d : De), F k = true -> m.decs[k]? = some d -> d.kind = 3 -> ∀ x ∈ locT d.typ, x ∈ L
structure Nm where
  name : ByteArray
  typ : Ty
structure If where
  pkg : ByteArray
  major : Int
  mod : ByteArray
  types : List Nm
  vals : List Nm
def isIf (p : ByteArray) (j : Int) (d : ByteArray) (x : If) : Bool := decide (x.pkg = p) && ((x.major == j) && decide (x.mod = d))
def findI (env : List If) (p : ByteArray) (j : Int) (d : ByteArray) : Option Nat := env.findIdx? (isIf p j d)
def isNm (s : ByteArray) (x : Nm) : Bool := decide (x.name = s)
def ofI (l : List Nm) (s : ByteArray) : Option Nat := l.findIdx? (isNm s)
def envT (env : List If) (x : Im) (s : ByteArray) : Option Ty :=
  match findI env x.pkg x.major x.mod with
  | none => none
  | some k => match env[k]? with
    | none => none
    | some i => match ofI i.types s with
      | none => none
      | some n => (i.types[n]?).map (·.typ)
end Go.Proofs.YtddlmigofilejaaGreat
namespace Go.Proofs.YtddlmigofilejaaGreat
open Go Go.ChangeShapes Go.WideShapes Go.ChangeAt Go.RowKit Go.Joins Go.Deep
open M
def nmE (w : World) (l : List Value) (x : Nm) : Prop := x.name.size <= 9223372036854775807 /\ ∃ l7 : List Value, l = .string x.name :: l7 /\ TyAt w l7 x.typ
def nmR : Reads Nm := ⟨8, 52, nmE, fun _ _ _ _ _ _ ⟨hs, l7, e, h⟩ hz hb => ⟨hs, l7, e, h.move hz hb⟩, fun _ _ _ _ ⟨hs, l7, e, h⟩ hb => ⟨hs, l7, e, h.keep hb⟩, fun _ _ _ _ ⟨hs, l7, e, h⟩ => ⟨hs, l7, e, h.free⟩, fun _ l x ⟨_, l7, e, h⟩ => by rw [e]; simp [h.len]⟩
def ifE (w : World) (l : List Value) (x : If) : Prop :=
  ∃ (At : Option Addr) (ct : Nat) (Av : Option Addr) (cv : Nat), l = [.string x.pkg, .int .i64 x.major, .string x.mod, .slice At x.types.length ct, .slice Av x.vals.length cv] /\ x.pkg.size <= 9223372036854775807 /\ x.mod.size <= 9223372036854775807 /\ x.types.length <= 9223372036854775807 /\ x.vals.length <= 9223372036854775807 /\ RowIn nmR w At x.types /\ RowIn nmR w Av x.vals
def ifR : Reads If := ⟨5, 44, ifE, fun _ _ _ _ _ _ ⟨At, ct, Av, cv, e, h1, h2, h3, h4, h5, h6⟩ hz hb => ⟨At, ct, Av, cv, e, h1, h2, h3, h4, h5.move hz hb, h6.move hz hb⟩, fun _ _ _ _ ⟨At, ct, Av, cv, e, h1, h2, h3, h4, h5, h6⟩ hb => ⟨At, ct, Av, cv, e, h1, h2, h3, h4, h5.below hb, h6.below hb⟩, fun _ _ _ _ ⟨At, ct, Av, cv, e, h1, h2, h3, h4, h5, h6⟩ => ⟨At, ct, Av, cv, e, h1, h2, h3, h4, h5.free, h6.free⟩, fun _ l x ⟨At, ct, Av, cv, e, _⟩ => by rw [e]; rfl⟩
theorem RowIn.nm {w : World} {A : Option Addr} {xs : List Nm} (h : RowIn nmR w A xs) {i : Nat} {x : Nm} (hx : xs[i]? = some x) : ∃ (g o : Nat) (Bn : Option Addr) (cB : Nat) (Bs : Option Addr) (dB : Nat), A = some ⟨g, o, none⟩ /\ g < w.heap.size /\
    w.cell? ⟨g, o + i * 8, none⟩ = some (.string x.name) /\ w.cell? ⟨g, o + i * 8 + 1, none⟩ = some (.int .i64 x.typ.kind) /\ w.cell? ⟨g, o + i * 8 + 1 + 1, none⟩ = some (.string x.typ.pkg) /\ w.cell? ⟨g, o + i * 8 + 1 + 2, none⟩ = some (.int .i64 x.typ.major) /\ w.cell? ⟨g, o + i * 8 + 1 + 3, none⟩ = some (.string x.typ.mod) /\
    w.cell? ⟨g, o + i * 8 + 1 + 4, none⟩ = some (.string x.typ.name) /\ w.cell? ⟨g, o + i * 8 + 1 + 5, none⟩ = some (.slice Bn x.typ.names.length cB) /\ w.cell? ⟨g, o + i * 8 + 1 + 6, none⟩ = some (.slice Bs x.typ.subs.length dB) /\ TyAt w [.int .i64 x.typ.kind, .string x.typ.pkg, .int .i64 x.typ.major, .string x.typ.mod, .string x.typ.name, .slice Bn x.typ.names.length cB, .slice Bs x.typ.subs.length dB] x.typ /\ x.name.size <= 9223372036854775807 := by
  obtain ⟨g, o, l, hA, hg, hc, hs, l7, rfl, hT⟩ := h i x hx;obtain ⟨Bn, cB, Bs, dB, rfl, -⟩ := hT.parts;exact ⟨g, o, Bn, cB, Bs, dB, hA, hg, hc 0 _ rfl, hc 1 _ rfl, hc 2 _ rfl, hc 3 _ rfl, hc 4 _ rfl, hc 5 _ rfl, hc 6 _ rfl, hc 7 _ rfl, hT, hs⟩
theorem RowIn.ifc {w : World} {A : Option Addr} {xs : List If} (h : RowIn ifR w A xs) {i : Nat} {x : If} (hx : xs[i]? = some x) : ∃ (g o : Nat) (At : Option Addr) (ct : Nat) (Av : Option Addr) (cv : Nat), A = some ⟨g, o, none⟩ /\ g < w.heap.size /\
    w.cell? ⟨g, o + i * 5, none⟩ = some (.string x.pkg) /\ w.cell? ⟨g, o + i * 5 + 1, none⟩ = some (.int .i64 x.major) /\ w.cell? ⟨g, o + i * 5 + 2, none⟩ = some (.string x.mod) /\ w.cell? ⟨g, o + i * 5 + 3, none⟩ = some (.slice At x.types.length ct) /\ w.cell? ⟨g, o + i * 5 + 4, none⟩ = some (.slice Av x.vals.length cv) /\
    x.pkg.size <= 9223372036854775807 /\ x.mod.size <= 9223372036854775807 /\ x.types.length <= 9223372036854775807 /\ x.vals.length <= 9223372036854775807 /\ RowIn nmR w At x.types /\ RowIn nmR w Av x.vals := by
  obtain ⟨g, o, l, hA, hg, hc, At, ct, Av, cv, rfl, h1, h2, h3, h4, h5, h6⟩ := h i x hx;exact ⟨g, o, At, ct, Av, cv, hA, hg, hc 0 _ rfl, hc 1 _ rfl, hc 2 _ rfl, hc 3 _ rfl, hc 4 _ rfl, h1, h2, h3, h4, h5, h6⟩
section
variable {H : Type} {enc : TypeId × Value -> H} {w : World} {base : Nat} {sp : Nat -> Bool} {held : Bool}
theorem nmCells : Tryz.prog.cellsOf 52 = 8 := by kernel_rfl
theorem ifCells : Tryz.prog.cellsOf 44 = 5 := by kernel_rfl
theorem nmCellsL : Tryz.prog.cellsOf 42 = 1 := by kernel_rfl
theorem list8 {α : Type} : ∀ l : List α, l.length = 8 -> ∃ a r, l = a :: r /\ r.length = 7
  | a :: r, h => ⟨a, r, rfl, by simpa using h⟩
  | [], h => by simp at h
theorem list5 {α : Type} : ∀ l : List α, l.length = 5 -> ∃ a b c d e, l = [a, b, c, d, e]
  | [a, b, c, d, e], _ => ⟨a, b, c, d, e, rfl⟩
  | [], h => by simp at h
  | [_], h => by simp at h
  | [_, _], h => by simp at h
  | [_, _, _], h => by simp at h
  | [_, _, _, _], h => by simp at h
  | _ :: _ :: _ :: _ :: _ :: _ :: _, h => by simp at h
theorem open_nm (n : Nat) (cs : List Value) (x : DataW H × List MemPlace) (h : DataW.trod enc Tryz.prog w base sp held n 52 cs = some x) : ∃ a, nmE w cs a := by
  obtain ⟨xs, n, hfuel, -, hlen, hxl, hf⟩ := DataW.trod_struct Tryz.underlying52 h;rw [nmCells] at hlen;obtain ⟨c0, r, rfl, hr⟩ := list8 cs hlen;have q : ∀ j, j < 2 -> ∃ y, xs[j]? = some y := fun j hj => ⟨_, List.getElem?_eq_getElem (by rw [hxl]; exact hj)⟩
  obtain ⟨y0, e0⟩ := q 0 (by omega); obtain ⟨y1, e1⟩ := q 1 (by omega)
  have g0 : DataW.trod enc Tryz.prog w base sp held n 9 (((c0 :: r).drop 0).take (Tryz.prog.cellsOf 9)) = some y0 := (hf 0 _ rfl).trans e0;have g1 : DataW.trod enc Tryz.prog w base sp held n 50 (((c0 :: r).drop 1).take (Tryz.prog.cellsOf 50)) = some y1 := (hf 1 _ rfl).trans e1;rw [tyCellsStr] at g0;rw [tyCells, show ((c0 :: r).drop 1).take 7 = r by simp [<- hr]] at g1;obtain ⟨s, k0, -, z0⟩ := DataW.trod_string Tryz.underlying9 g0;obtain ⟨t, ht⟩ := open_tree _ _ _ g1;simp at k0;subst k0;unfold maxLen at z0
  exact ⟨⟨s, t⟩, z0, r, rfl, ht⟩
theorem open_if (n : Nat) (cs : List Value) (x : DataW H × List MemPlace) (h : DataW.trod enc Tryz.prog w base sp held n 44 cs = some x) : ∃ a, ifE w cs a := by
  obtain ⟨xs, n, hfuel, -, hlen, hxl, hf⟩ := DataW.trod_struct Tryz.underlying44 h;rw [ifCells] at hlen;obtain ⟨c0, c1, c2, c3, c4, rfl⟩ := list5 cs hlen;have q : ∀ j, j < 5 -> ∃ y, xs[j]? = some y := fun j hj => ⟨_, List.getElem?_eq_getElem (by rw [hxl]; exact hj)⟩
  obtain ⟨y0, e0⟩ := q 0 (by omega); obtain ⟨y1, e1⟩ := q 1 (by omega); obtain ⟨y2, e2⟩ := q 2 (by omega); obtain ⟨y3, e3⟩ := q 3 (by omega); obtain ⟨y4, e4⟩ := q 4 (by omega)
  have g0 : DataW.trod enc Tryz.prog w base sp held n 9 (([c0, c1, c2, c3, c4].drop 0).take (Tryz.prog.cellsOf 9)) = some y0 := (hf 0 _ rfl).trans e0;have g1 : DataW.trod enc Tryz.prog w base sp held n 3 (([c0, c1, c2, c3, c4].drop 1).take (Tryz.prog.cellsOf 3)) = some y1 := (hf 1 _ rfl).trans e1;have g2 : DataW.trod enc Tryz.prog w base sp held n 9 (([c0, c1, c2, c3, c4].drop 2).take (Tryz.prog.cellsOf 9)) = some y2 := (hf 2 _ rfl).trans e2;have g3 : DataW.trod enc Tryz.prog w base sp held n 42 (([c0, c1, c2, c3, c4].drop 3).take (Tryz.prog.cellsOf 42)) = some y3 := (hf 3 _ rfl).trans e3;have g4 : DataW.trod enc Tryz.prog w base sp held n 42 (([c0, c1, c2, c3, c4].drop 4).take (Tryz.prog.cellsOf 42)) = some y4 := (hf 4 _ rfl).trans e4;rw [tyCellsStr] at g0 g2;rw [tyCellsInt] at g1;rw [nmCellsL] at g3 g4;obtain ⟨p, k0, -, z0⟩ := DataW.trod_string Tryz.underlying9 g0;obtain ⟨m, k1, -, -⟩ := DataW.trod_int Tryz.underlying3 g1;obtain ⟨d, k2, -, z2⟩ := DataW.trod_string Tryz.underlying9 g2;have h3 : DataW.trod enc Tryz.prog w base sp held n 42 [c3] = some y3 := g3;have h4 : DataW.trod enc Tryz.prog w base sp held n 42 [c4] = some y4 := g4;obtain ⟨At, ct, lt, rfl, hlt, kT, hT⟩ := open_rows7 nmR 42 ⟨⟨#[]⟩, noT⟩ Tryz.underlying42 nmCells (by decide) open_nm h3;obtain ⟨Av, cv, lv, rfl, hlv, kV, hV⟩ := open_rows7 nmR 42 ⟨⟨#[]⟩, noT⟩ Tryz.underlying42 nmCells (by decide) open_nm h4;simp at k0 k1 k2;subst k0 k1 k2;unfold maxLen at z0 z2 hlt hlv
  exact ⟨⟨p, m, d, lt, lv⟩, At, ct, Av, cv, rfl, z0, z2, hlt, hlv, hT, hV⟩
theorem open_env {r : Go.Reach} {b0 : Nat} {v : Value} {d : DataW H} {p : List MemPlace} (hv : Value.okWide Tryz.prog w r b0 22 v) (h : DataW.Trod enc Tryz.prog w base sp held 22 v d p) : ∃ (A : Option Addr) (c : Nat) (env : List If), v = .slice A env.length c /\ env.length <= maxLen /\ RowIn ifR w A env := by
  obtain ⟨a, n, c, rfl⟩ := okWide_slice Tryz.underlying22 hv;obtain ⟨fuel, hf⟩ := h;have hf' : DataW.trod enc Tryz.prog w base sp held fuel 22 [.slice a n c] = some (d, p) := hf
  obtain ⟨A, c, l, e, hl, -, hR⟩ := open_rows7 ifR 22 ⟨⟨#[]⟩, 0, ⟨#[]⟩, [], []⟩ Tryz.underlying22 ifCells (by decide) open_if hf';exact ⟨A, c, l, e, hl, hR⟩
end
end Go.Proofs.YtddlmigofilejaaGreat
namespace Go.Proofs.YtddlmigofilejaaGreat
open Go Go.RowKit Go.Shelf
open Go.Sort Go.Maps
open M
def optN : Option Nat -> Int
  | some i => i
  | none => -1
theorem idx_yes {α : Type} {p : α -> Bool} {l : List α} {k : Nat} {x : α} (hx : l[k]? = some x) (hn : ∀ y ∈ l.take k, p y = false) (h : p x = true) : l.findIdx? p = some k := by
  rw [List.findIdx?_eq_some_iff_getElem];obtain ⟨hk, rfl⟩ := List.getElem?_eq_some_iff.1 hx;refine ⟨hk, h, fun j hj => ?_⟩;rw [hn _ (List.mem_of_getElem? (i := j) (by rw [List.getElem?_take, if_pos hj]; exact List.getElem?_eq_getElem (by omega)))];simp
theorem idx_no {α : Type} {p : α -> Bool} {l : List α} (hn : ∀ x ∈ l, p x = false) : l.findIdx? p = none := by rw [List.findIdx?_eq_none_iff]; exact hn
theorem rof8_any (A : Option Addr) (c : Nat) (l : List Nm) (s : ByteArray) (w : World) (h : RowIn nmR w A l) (hl : l.length <= 9223372036854775807) :
    Calls Tryz.prog 52 #[.slice A l.length c, .string s] w fun e w' => e = .returned (.int .i64 (optN (ofI l s))) /\ Below w.heap.size w w' := by
  have HR := hZ h;obtain ⟨n, hn⟩ : ∃ n, n = l.length := ⟨_, rfl⟩;have HN := hZ hn;rw [<- hn] at hl ⊢;clear h hn;go_enter Tryz.func52, Tryz.ntmps52
  go_wp2_with fail
  go_loopw [5] (fun s5 wr => ∃ k : Nat, k <= n /\ s5 = .int .i64 k /\ Hid (∀ x ∈ l.take k, isNm s x = false) /\ Hid (Below w.heap.size w wr)) (fun s5 _ => n - (intOf s5).toNat)
  case atStart => exact ⟨0, by omega, rfl, hZ (by simp), hZ (Below.refl _ _)⟩
  case round =>
    obtain ⟨k, hk, rfl, HNO, HB⟩ := hrel;obtain ⟨wo, rfl⟩ : ∃ wo : World, wo = wr := ⟨_, rfl⟩;by_cases hlt : k < n
    · obtain ⟨x, hx⟩ : ∃ x, l[k]? = some x := ⟨_, List.getElem?_eq_getElem (by rw [<- HN.out]; exact hlt)⟩
      obtain ⟨g, o, Bn, cB, Bs, dB, rfl, hg, a0, -⟩ := (HR.out.below HB.out).nm hx;have hq := str_eq x.name s;have HX := hZ hx;have hk0 : (0 : Int) <= k := by omega
      have hk1 : (k : Int) < n := by omega
      clear hx;by_cases hs : x.name = s
      · have RES : Hid (ofI l s = some k) := hZ (idx_yes HX.out HNO.out (by simp [isNm, hs]))
        rw [decide_eq_true hs] at hq;clear hs;go_wp2_with fail
        go_ret;exact ⟨by rw [RES.out]; rfl, HB.out⟩
      · have NX : Hid (∀ y ∈ l.take (k + 1), isNm s y = false) := hZ (fun y hy => by
          rw [List.take_add_one, HX.out] at hy;rcases List.mem_append.1 hy with h | h
          · exact HNO.out y h
          · simp at h; rw [h]; simp [isNm, hs])
        rw [decide_eq_false hs] at hq;clear hs;go_wp2_with fail
        go_roundw
        case rel => exact ⟨k + 1, by omega, by go_num, NX, HB⟩
        case measure => simp [intOf]; omega
    · have RES : Hid (ofI l s = none) := hZ (idx_no (fun x hx => HNO.out x (by rw [List.take_of_length_le (by rw [<- HN.out]; omega)]; exact hx)))
      go_wp2_with fail
      go_ret;exact ⟨by rw [RES.out]; rfl, HB.out⟩
end Go.Proofs.YtddlmigofilejaaGreat
namespace Go.Proofs.YtddlmigofilejaaGreat
open Go.RowKit
open M
theorem plain_any (N : Nat) : ∀ (t : Ty), many t <= N -> ∀ (v : Value) (w : World), TyV w v t ->
    Calls Tryz.prog 81 #[v] w fun e w' => e = .returned (.bool (plainT t)) /\ Below w.heap.size w w' := by
  induction N with
  | zero => intro t h; have := many_pos t; omega
  | succ N ih =>
    intro t hN v w hv;obtain ⟨l, rfl, hT⟩ := hv;obtain ⟨An, cn, As, cs, rfl, -, -, -, hzn, hz, -, hS⟩ := hT.parts;have HS := hZ hS;clear hT hS;generalize hn : t.subs.length = n at hz
    have HN := hZ hn;clear hn;have HE := hZ (plain_eq t);rcases hid_or (t.kind == 8) with hk8 | hk8
    · have hk8' := hk8.out
      go_enter Tryz.func81, Tryz.ntmps81
      go_wp2_with fail
      go_loopw [3] (fun i wr => ∃ k : Nat, k <= n /\ i = .int .i64 k /\ Hid (∀ j s, j < k -> t.subs[j]? = some s -> plainT s = true) /\ Below (boxed w #[.int .i64 t.kind, .string t.pkg, .int .i64 t.major, .string t.mod, .string t.name, .slice An t.names.length cn, .slice As n cs]).heap.size (boxed w #[.int .i64 t.kind, .string t.pkg, .int .i64 t.major, .string t.mod, .string t.name, .slice An t.names.length cn, .slice As n cs]) wr) (fun i _ => n - (intOf i).toNat)
      case atStart => exact ⟨0, by omega, rfl, hZ (fun j s h => by omega), Below.refl _ _⟩
      case round =>
        obtain ⟨k, hk, rfl, HP, hb⟩ := hrel;obtain ⟨wo, rfl⟩ : ∃ wo : World, wo = wr := ⟨_, rfl⟩;have b6 := box_cell hb 6;simp at b6;have HB := hZ (box_below hb);by_cases hlt : k < n
        · obtain ⟨s, hs⟩ : ∃ s, t.subs[k]? = some s := ⟨_, List.getElem?_eq_getElem (by rw [HN.out]; exact hlt)⟩
          obtain ⟨g, o, v0, v1, v2, v3, v4, v5, v6, rfl, -, h0, h1, h2, h3, h4, h5, h6, hs7⟩ := HS.out.below HB.out k s hs;have hsm := sub_many hs;have IH := hZ (ih s (by omega) (.agg #[v0, v1, v2, v3, v4, v5, v6]) wo ⟨_, rfl, hs7⟩);have HSS := hZ hs;clear hs7 hs hsm;rcases hid_or (plainT s) with hp | hp
          · have R : Hid (plainT t = false) := hZ (by
              rw [HE.out, Bool.and_eq_false_iff]; right
              rw [Bool.eq_false_iff, ne_eq, plainL_mem];intro h;have := h s (List.mem_of_getElem? HSS.out)
              rw [hp.out] at this; cases this)
            go_wp2_with fail
            refine IH.out.mono ?_; rintro e w2 ⟨rfl, hb2⟩; rw [hp.out]
            have hb3 := below_over hb hb2;clear b6 h0 h1 h2 h3 h4 h5 h6 hb hb2;go_wp2_with fail
            go_ret;exact ⟨ret_bool R.out, box_below hb3⟩
          · go_wp2_with fail
            refine IH.out.mono ?_; rintro e w2 ⟨rfl, hb2⟩; rw [hp.out]
            have hb3 := below_over hb hb2;clear b6 h0 h1 h2 h3 h4 h5 h6 hb hb2;go_wp2_with fail
            go_roundw
            case rel => exact ⟨k + 1, by omega, by go_num, hZ (fun j q hj hq => by
              rcases Nat.lt_or_ge j k with a | a
              · exact HP.out j q a hq
              · rw [show j = k by omega, HSS.out] at hq
                obtain rfl := Option.some.inj hq;exact hp.out), hb3⟩
            case measure => simp [intOf]; omega
        · have R : Hid (plainT t = true) := hZ (by
            rw [HE.out, hk8.out, (plainL_mem t.subs).2 (fun s hs => ?_)]
            · rfl
            · obtain ⟨j, hj⟩ := List.getElem?_of_mem hs
              have hjl := (List.getElem?_eq_some_iff.1 hj).1;exact HP.out j s (by rw [HN.out] at hjl; omega) hj)
          go_wp2_with fail
          go_ret;exact ⟨ret_bool R.out, HB.out⟩
    · have hk8' := hk8.out
      have R : Hid (plainT t = false) := hZ (by rw [HE.out, hk8.out]; rfl);rw [R.out];go_enter Tryz.func81, Tryz.ntmps81
      go_wp2_with fail
      go_ret;exact ⟨rfl, below_new (Below.refl _ _) _⟩
end Go.Proofs.YtddlmigofilejaaGreat
namespace Go.Proofs.YtddlmigofilejaaGreat
open Go Go.RowKit
open Go.Sort
section
variable {P : Program} {w : World}
end
theorem below_grown {B : Nat} {w w1 w2 : World} {v : Value} {e : TypeId} {z n : Nat} {xs : List Value} (hb : Below B w w1) (hB : B <= w1.heap.size) (hown : w1.ownsRow B e z v n xs) (hg : w1.grownBy w2 v.ownBlock) : Below B w w2 :=
  hb.trans ⟨hg.os, hg.tape, hg.output, hg.size, fun b h => hg.block b (Nat.lt_of_lt_of_le h hB) (fun e => by have := (hown.lt b e.symm).1; omega)⟩
end Go.Proofs.YtddlmigofilejaaGreat
namespace Go.Proofs.YtddlmigofilejaaGreat
open Go.RowKit Go.Shelf
open Go.Sort Go.Maps
open M
def ShL (l : List Value) (t : Ty) : Prop := ∃ (An : Option Addr) (cn : Nat) (As : Option Addr) (cs : Nat), l = [.int .i64 t.kind, .string t.pkg, .int .i64 t.major, .string t.mod, .string t.name, .slice An t.names.length cn, .slice As t.subs.length cs]
def OwnL (w : World) (lo : Nat) (v : Value) (xs : List Ty) : Prop :=
  ∃ C : List (List Value), C.length = xs.length /\ (∀ l, l ∈ C -> l.length = 7) /\ w.ownsRow lo 50 7 v xs.length C.flatten /\ ∀ (i : Nat) (l : List Value) (x : Ty), C[i]? = some l -> xs[i]? = some x -> ShL l x
end Go.Proofs.YtddlmigofilejaaGreat
namespace Go.Proofs.YtddlmigofilejaaGreat
open Go Go.RowKit Go.Shelf
open Go.Sort Go.Maps
open M
theorem ofI_lt {l : List Nm} {s : ByteArray} {k : Nat} (h : ofI l s = some k) : k < l.length := by
  unfold ofI at h
  rw [List.findIdx?_eq_some_iff_getElem] at h;exact h.1
theorem zero_at (w : World) : TyAt w [.int .i64 0, .string ⟨#[]⟩, .int .i64 0, .string ⟨#[]⟩, .string ⟨#[]⟩, .slice none 0 0, .slice none 0 0] (.mk 0 ⟨#[]⟩ 0 ⟨#[]⟩ ⟨#[]⟩ [] []) :=
  .mk 0 ⟨#[]⟩ 0 ⟨#[]⟩ ⟨#[]⟩ [] [] none 0 none 0 (fun _ => [.int .i64 0, .string ⟨#[]⟩, .int .i64 0, .string ⟨#[]⟩, .string ⟨#[]⟩, .slice none 0 0, .slice none 0 0]) (by decide) (by decide) (by decide) (by decide) (by decide) (by decide) (fun i s h => by simp at h) (fun _ => rfl) (fun i t h => by simp at h) (fun i t h => by simp at h)
def zIf : If := ⟨⟨#[]⟩, 0, ⟨#[]⟩, [], []⟩
def zTy : Ty := .mk 0 ⟨#[]⟩ 0 ⟨#[]⟩ ⟨#[]⟩ [] []
theorem ifSize : (Tryz.prog.info? 44).map (·.size) = some 5 := by kernel_rfl
theorem ifOne {p d : ByteArray} {m : Int} {A B : Option Addr} {n c k e : Nat} : (#[.string p, .int .i64 m, .string d, .slice A n c, .slice B k e] : Array Value).all (·.oneCell') = true := Array.all_eq_true_iff_forall_mem.2 (fun v hv => by simp at hv; rcases hv with rfl | rfl | rfl | rfl | rfl <;> rfl)
theorem cell5 {w : World} {b : Nat} {v0 v1 v2 v3 v4 : Value} {T : TypeId} {fr : Nat × Nat} (h : w.heap[b]? = some (.cells #[v0, v1, v2, v3, v4] T fr)) : ∀ i v, ([v0, v1, v2, v3, v4] : List Value)[i]? = some v -> w.cell? ⟨b, i, none⟩ = some v := fun i v hv => by
  rw [cZ h, <- hv, <- List.getElem?_toArray]
theorem zero_if (w : World) : ifE w [.string ⟨#[]⟩, .int .i64 0, .string ⟨#[]⟩, .slice none 0 0, .slice none 0 0] zIf :=
  ⟨none, 0, none, 0, rfl, by decide, by decide, by decide, by decide, fun i x h => by simp [zIf] at h, fun i x h => by simp [zIf] at h⟩
def zNm : Nm := ⟨⟨#[]⟩, zTy⟩
theorem zero_nm (w : World) : nmE w [.string ⟨#[]⟩, .int .i64 0, .string ⟨#[]⟩, .int .i64 0, .string ⟨#[]⟩, .string ⟨#[]⟩, .slice none 0 0, .slice none 0 0] zNm := ⟨by decide, _, rfl, zero_at w⟩
theorem nmSizeI : (Tryz.prog.info? 52).map (·.size) = some 8 := by kernel_rfl
theorem nmOneI {s : ByteArray} {k m : Int} {p d n : ByteArray} {A5 A6 : Option Addr} {n5 c5 n6 c6 : Nat} : (#[.string s, .int .i64 k, .string p, .int .i64 m, .string d, .string n, .slice A5 n5 c5, .slice A6 n6 c6] : Array Value).all (·.oneCell') = true := Array.all_eq_true_iff_forall_mem.2 (fun v hv => by simp at hv; rcases hv with rfl | rfl | rfl | rfl | rfl | rfl | rfl | rfl <;> rfl)
theorem cell8I {w : World} {b : Nat} {v0 v1 v2 v3 v4 v5 v6 v7 : Value} {T : TypeId} {fr : Nat × Nat} (h : w.heap[b]? = some (.cells #[v0, v1, v2, v3, v4, v5, v6, v7] T fr)) : ∀ i v, ([v0, v1, v2, v3, v4, v5, v6, v7] : List Value)[i]? = some v -> w.cell? ⟨b, i, none⟩ = some v := fun i v hv => by
  rw [cZ h, <- hv, <- List.getElem?_toArray]
end Go.Proofs.YtddlmigofilejaaGreat
namespace Go.Proofs.YtddlmigofilejaaGreat
open Go.RowKit
open M
theorem index_local (As : Option Addr) (cs n : Nat) (ss : List Ty) (w : World) (hn : ss.length = n) (hz : n <= 9223372036854775807) (hS : SubsAt w As ss)
    (IH : ∀ s, s ∈ ss -> ∀ (v : Value) (w : World), TyV w v s -> Calls Tryz.prog 113 #[v] w fun e w' => e = .returned (.bool (!plainT s)) /\ Below w.heap.size w w') :
    Calls Tryz.prog 154 #[.slice As n cs, .func (.func 113) #[] #[]] w fun e w' => ∃ r : Int, e = .returned (.int .i64 r) /\ decide (0 <= r) = !plainL ss /\ Below w.heap.size w w' := by
  have HS := hZ hS;have HN := hZ hn;have HIH := hZ IH;clear hS hn IH;go_enter Tryz.func154, Tryz.ntmps154
  go_wp2_with fail
  go_loopw [8] (fun i wr => ∃ k : Nat, k <= n /\ i = .int .i64 k /\ Hid (∀ j s, j < k -> ss[j]? = some s -> plainT s = true) /\ Below w.heap.size w wr) (fun i _ => n - (intOf i).toNat)
  case atStart => exact ⟨0, by omega, rfl, hZ (fun j s h => by omega), Below.refl _ _⟩
  case round =>
    obtain ⟨k, hk, rfl, HP, hb⟩ := hrel;obtain ⟨wo, rfl⟩ : ∃ wo : World, wo = wr := ⟨_, rfl⟩;by_cases hlt : k < n
    · obtain ⟨s, hs⟩ : ∃ s, ss[k]? = some s := ⟨_, List.getElem?_eq_getElem (by rw [HN.out]; exact hlt)⟩
      obtain ⟨g, o, v0, v1, v2, v3, v4, v5, v6, rfl, -, h0, h1, h2, h3, h4, h5, h6, hs7⟩ := HS.out.below hb k s hs;have IHs := hZ (HIH.out s (List.mem_of_getElem? hs) (.agg #[v0, v1, v2, v3, v4, v5, v6]) wo ⟨_, rfl, hs7⟩);have HSS := hZ hs;clear hs7 hs;rcases hid_or (plainT s) with hp | hp
      · have R : Hid (decide (0 <= (k : Int)) = !plainL ss) := hZ (by
          rw [show plainL ss = false by
            rw [Bool.eq_false_iff, ne_eq, plainL_mem];intro h;have := h s (List.mem_of_getElem? HSS.out)
            rw [hp.out] at this; cases this]
          simp)
        go_wp2_with fail
        refine IHs.out.mono ?_; rintro e w2 ⟨rfl, hb2⟩; rw [hp.out]
        have hb3 := below_over hb hb2;clear h0 h1 h2 h3 h4 h5 h6 hb hb2;go_wp2_with fail
        go_ret;exact ⟨_, rfl, R.out, hb3⟩
      · go_wp2_with fail
        refine IHs.out.mono ?_; rintro e w2 ⟨rfl, hb2⟩; rw [hp.out]
        have hb3 := below_over hb hb2;clear h0 h1 h2 h3 h4 h5 h6 hb hb2;go_wp2_with fail
        go_roundw
        case rel => exact ⟨k + 1, by omega, by go_num, hZ (fun j q hj hq => by
          rcases Nat.lt_or_ge j k with a | a
          · exact HP.out j q a hq
          · rw [show j = k by omega, HSS.out] at hq
            obtain rfl := Option.some.inj hq;exact hp.out), hb3⟩
        case measure => simp [intOf]; omega
    · have R : Hid (decide (0 <= (-1 : Int)) = !plainL ss) := hZ (by
        rw [(plainL_mem ss).2 (fun s hs => ?_)]
        · rfl
        · obtain ⟨j, hj⟩ := List.getElem?_of_mem hs
          have hjl := (List.getElem?_eq_some_iff.1 hj).1;exact HP.out j s (by rw [HN.out] at hjl; omega) hj)
      go_wp2_with fail
      go_ret;exact ⟨_, rfl, R.out, hb⟩
theorem contains_local (As : Option Addr) (cs n : Nat) (ss : List Ty) (w : World) (hn : ss.length = n) (hz : n <= 9223372036854775807) (hS : SubsAt w As ss)
    (IH : ∀ s, s ∈ ss -> ∀ (v : Value) (w : World), TyV w v s -> Calls Tryz.prog 113 #[v] w fun e w' => e = .returned (.bool (!plainT s)) /\ Below w.heap.size w w') :
    Calls Tryz.prog 126 #[.slice As n cs, .func (.func 113) #[] #[]] w fun e w' => e = .returned (.bool (!plainL ss)) /\ Below w.heap.size w w' := by
  have HC := hZ (index_local As cs n ss w hn hz hS IH);clear hn hS IH;go_enter Tryz.func126, Tryz.ntmps126
  go_wp2_with fail
  refine HC.out.mono ?_; rintro e w2 ⟨r, rfl, hr, hb2⟩
  have HR := hZ hr;clear hr HC;go_wp2_with fail
  go_ret;exact ⟨ret_bool HR.out.symm, hb2⟩
theorem local_any (N : Nat) : ∀ (t : Ty), many t <= N -> ∀ (v : Value) (w : World), TyV w v t ->
    Calls Tryz.prog 113 #[v] w fun e w' => e = .returned (.bool (!plainT t)) /\ Below w.heap.size w w' := by
  induction N with
  | zero => intro t h; have := many_pos t; omega
  | succ N ih =>
    intro t hN v w hv;obtain ⟨l, rfl, hT⟩ := hv;obtain ⟨An, cn, As, cs, rfl, -, -, -, hzn, hz, -, hS⟩ := hT.parts;have HS := hZ hS;clear hT hS;have HE := hZ (plain_eq t)
    have IH : Hid (∀ s, s ∈ t.subs -> ∀ (v : Value) (w : World), TyV w v s -> Calls Tryz.prog 113 #[v] w fun e w' => e = .returned (.bool (!plainT s)) /\ Below w.heap.size w w') :=
      hZ (fun s hs v w hv => ih s (by have := manyL_mem t.subs s hs; have := manyL_eq t; omega) v w hv)
    clear ih hN;generalize hn : t.subs.length = n at hz
    have HN := hZ hn;clear hn;rcases hid_or (t.kind == 8) with h8 | h8
    · have h8' := h8.out
      have R : Hid ((!plainT t) = !plainL t.subs) := hZ (by rw [HE.out, h8']; rfl);rw [R.out];clear R;go_enter Tryz.func113, Tryz.ntmps113
      go_wp2_with fail
      refine (contains_local As cs n t.subs _ HN.out hz (HS.out.below (below_new (Below.refl _ _) _)) IH.out).mono ?_; rintro e w2 ⟨rfl, hb2⟩
      go_wp2_with fail
      go_ret;exact ⟨rfl, (below_new (Below.refl _ _) _).trans (hb2.mono (by simp))⟩
    · have h8' := h8.out
      have R : Hid ((!plainT t) = true) := hZ (by rw [HE.out, h8']; rfl);rw [R.out];clear R;go_enter Tryz.func113, Tryz.ntmps113
      go_wp2_with fail
      go_ret;exact ⟨rfl, below_new (Below.refl _ _) _⟩
end Go.Proofs.YtddlmigofilejaaGreat
namespace Go.Proofs.YtddlmigofilejaaGreat
open Go.RowKit
open Go.Sort
open M
theorem sameL_no {a b : List Ty} (h : a ≠ b) : sameL a b = false := by
 rw [Bool.eq_false_iff, ne_eq, sameL_iff]; exact h
theorem equal_names (A : Option Addr) (c n : Nat) (l : List ByteArray) (A' : Option Addr) (c' n' : Nat) (l' : List ByteArray) (w : World) (hn : l.length = n) (hn' : l'.length = n') (hz : n <= 9223372036854775807) (hz' : n' <= 9223372036854775807) (hN : NamesAt w A l) (hN' : NamesAt w A' l') :
  Calls Tryz.prog 137 #[.slice A n c, .slice A' n' c'] w fun e w' => e = .returned (.bool (decide (l = l'))) /\ Below w.heap.size w w' := by
 have HN := hZ hN
 have HN' := hZ hN'
 have HQ := hZ hn
 have HQ' := hZ hn'
 clear hN hN' hn hn'
 by_cases hqq : n = n'
 rotate_left
 ·have R : Hid (decide (l = l') = false) := hZ (by
   have h1 := HQ.out;have h2 := HQ'.out;simp;intro e; subst e; omega)
  have f1 : (((n : Nat) : Int) == ((n' : Nat) : Int)) = false := by simp; omega
  have f2 : (((n : Nat) : Int) != ((n' : Nat) : Int)) = true := by simp; omega
  rw [R.out];clear hqq;as_aux_lemma =>
  go_enter Tryz.func137, Tryz.ntmps137
  go_wp2_with fail
  go_ret;exact ⟨rfl, Below.refl _ _⟩
 subst hqq
 go_enter Tryz.func137, Tryz.ntmps137
 go_wp2_with fail
 go_loopw [13] (fun i wr => ∃ k : Nat, k <= n /\ i = .int .i64 k /\ Hid (∀ j x y, j < k -> l[j]? = some x -> l'[j]? = some y -> x = y) /\ Below w.heap.size w wr) (fun i _ => n - (intOf i).toNat)
 case atStart => exact ⟨0, by omega, rfl, hZ (fun j x y h => by omega), Below.refl _ _⟩
 case round =>
  obtain ⟨k, hk, rfl, HP, hb⟩ := hrel;obtain ⟨wo, rfl⟩ : ∃ wo : World, wo = wr := ⟨_, rfl⟩;by_cases hlt : k < n
  ·obtain ⟨x, hx⟩ : ∃ x, l[k]? = some x := ⟨_, List.getElem?_eq_getElem (by rw [HQ.out]; exact hlt)⟩
   obtain ⟨y, hy⟩ : ∃ y, l'[k]? = some y := ⟨_, List.getElem?_eq_getElem (by rw [HQ'.out]; exact hlt)⟩;obtain ⟨g, o, rfl, hg, hc, -⟩ := HN.out.below hb k x hx;obtain ⟨g', o', rfl, hg', hc', -⟩ := HN'.out.below hb k y hy;have HX := hZ hx;have HY := hZ hy;clear hx hy;by_cases hxy : x = y
   ·have f1 : (x.toList == y.toList) = true := by rw [hxy]; simp
    have f2 : (!(x.toList == y.toList)) = false := by rw [f1]; rfl
    have HXY := hZ hxy;clear hxy;go_wp2_with fail
    go_quiet (fail)
    go_wp2_with fail
    go_roundw
    case rel => exact ⟨k + 1, by omega, by go_num, hZ (fun j a b hj ha hb => by
     rcases Nat.lt_or_ge j k with e | e
     ·exact HP.out j a b e ha hb
     ·rw [show j = k by omega, HX.out] at ha
      rw [show j = k by omega, HY.out] at hb;obtain rfl := Option.some.inj ha;obtain rfl := Option.some.inj hb;exact HXY.out), below_drewN hb _⟩
    case measure => simp [intOf]; omega
   ·have f1 : (x.toList == y.toList) = false := by
     rw [beq_eq_false_iff_ne, ne_eq, Lib.toList_data, Lib.toList_data, bytes_list];exact hxy
    have f2 : (!(x.toList == y.toList)) = true := by rw [f1]; rfl
    have f3 : ¬ x.toList = y.toList := by simpa using f1
    have R : Hid (decide (l = l') = false) := hZ (by
     simp;intro e; subst e
     have a := HX.out;rw [HY.out] at a;exact hxy (Option.some.inj a).symm)
    clear hxy;go_wp2_with fail
    go_quiet (fail)
    go_wp2_with fail
    go_ret;exact ⟨ret_bool R.out, below_drewN hb _⟩
  ·have R : Hid (decide (l = l') = true) := hZ (by
    simp
    exact list_ext' (by rw [HQ.out, HQ'.out]) (fun i x y hx hy => HP.out i x y (by
     have := (List.getElem?_eq_some_iff.1 hx).1
     rw [HQ.out] at this; omega) hx hy))
   go_wp2_with fail
   go_ret;exact ⟨ret_bool R.out, hb⟩
theorem equal_alike (A : Option Addr) (c n : Nat) (l : List Ty) (A' : Option Addr) (c' n' : Nat) (l' : List Ty) (w : World) (hn : l.length = n) (hn' : l'.length = n') (hz : n <= 9223372036854775807) (hz' : n' <= 9223372036854775807) (hS : SubsAt w A l) (hS' : SubsAt w A' l')
  (IH : ∀ s, s ∈ l -> ∀ (q : Ty) (v v' : Value) (w : World), TyV w v s -> TyV w v' q -> Calls Tryz.prog 110 #[v, v'] w fun e w' => e = .returned (.bool (sameT s q)) /\ Below w.heap.size w w') :
  Calls Tryz.prog 138 #[.slice A n c, .slice A' n' c', .func (.func 110) #[] #[]] w fun e w' => e = .returned (.bool (sameL l l')) /\ Below w.heap.size w w' := by
 have HN := hZ hS
 have HN' := hZ hS'
 have HQ := hZ hn
 have HQ' := hZ hn'
 have HIH := hZ IH
 clear hS hS' hn hn' IH
 by_cases hqq : n = n'
 rotate_left
 ·have R : Hid (sameL l l' = false) := hZ (by
   have h1 := HQ.out;have h2 := HQ'.out;exact sameL_no (fun e => by subst e; omega))
  have f1 : (((n : Nat) : Int) == ((n' : Nat) : Int)) = false := by simp; omega
  have f2 : (((n : Nat) : Int) != ((n' : Nat) : Int)) = true := by simp; omega
  rw [R.out];clear hqq;as_aux_lemma =>
  go_enter Tryz.func138, Tryz.ntmps138
  go_wp2_with fail
  go_ret;exact ⟨rfl, Below.refl _ _⟩
 subst hqq
 go_enter Tryz.func138, Tryz.ntmps138
 go_wp2_with fail
 go_loopw [17] (fun i wr => ∃ k : Nat, k <= n /\ i = .int .i64 k /\ Hid (∀ j x y, j < k -> l[j]? = some x -> l'[j]? = some y -> x = y) /\ Hid (Below w.heap.size w wr)) (fun i _ => n - (intOf i).toNat)
 case atStart => exact ⟨0, by omega, rfl, hZ (fun j x y h => by omega), hZ (Below.refl _ _)⟩
 case round =>
  obtain ⟨k, hk, rfl, HP, HB⟩ := hrel;obtain ⟨wo, rfl⟩ : ∃ wo : World, wo = wr := ⟨_, rfl⟩;by_cases hlt : k < n
  ·obtain ⟨x, hx⟩ : ∃ x, l[k]? = some x := ⟨_, List.getElem?_eq_getElem (by rw [HQ.out]; exact hlt)⟩
   obtain ⟨y, hy⟩ : ∃ y, l'[k]? = some y := ⟨_, List.getElem?_eq_getElem (by rw [HQ'.out]; exact hlt)⟩;obtain ⟨g, o, v0, v1, v2, v3, v4, v5, v6, rfl, hg, h0, h1, h2, h3, h4, h5, h6, hs7⟩ := HN.out.below HB.out k x hx;obtain ⟨g', o', z0, z1, z2, z3, z4, z5, z6, rfl, hg', e0, e1, e2, e3, e4, e5, e6, ht7⟩ := HN'.out.below HB.out k y hy;obtain ⟨Am, cm, At, ct, rfl, rfl, rfl, rfl, rfl, rfl, rfl⟩ := hs7.seven;obtain ⟨Bm, dm, Bt, dt, rfl, rfl, rfl, rfl, rfl, rfl, rfl⟩ := ht7.seven;have IHs := hZ (fun w' (hw : Below wo.heap.size wo w') => HIH.out x (List.mem_of_getElem? hx) y _ _ w' (TyV.below ⟨_, rfl, hs7⟩ hw) (TyV.below ⟨_, rfl, ht7⟩ hw));have HX := hZ hx;have HY := hZ hy;clear hx hy hs7 ht7;rcases hid_or (sameT x y) with hxy | hxy
   ·have R : Hid (sameL l l' = false) := hZ (sameL_no (fun e => by
     subst e;have a := HX.out;rw [HY.out] at a;have b := hxy.out;rw [Option.some.inj a] at b;rw [(sameT_iff x x).2 rfl] at b;cases b))
    go_wp2_with fail
    refine (IHs.out _ (below_new (below_new (Below.refl _ _) _) _)).mono ?_; rintro e w5 ⟨rfl, hb5⟩; rw [hxy.out]
    have HB5 := hZ ((below_new (below_new HB.out _) _).trans (hb5.mono (by have := HB.out.size; simp; omega)));clear h0 h1 h2 h3 h4 h5 h6 e0 e1 e2 e3 e4 e5 e6 hb5 IHs;go_wp2_with fail
    go_ret;exact ⟨ret_bool R.out, HB5.out⟩
   ·go_wp2_with fail
    refine (IHs.out _ (below_new (below_new (Below.refl _ _) _) _)).mono ?_; rintro e w5 ⟨rfl, hb5⟩; rw [hxy.out]
    have HB5 := hZ ((below_new (below_new HB.out _) _).trans (hb5.mono (by have := HB.out.size; simp; omega)));clear h0 h1 h2 h3 h4 h5 h6 e0 e1 e2 e3 e4 e5 e6 hb5 IHs;go_wp2_with fail
    go_roundw
    case rel => exact ⟨k + 1, by omega, by go_num, hZ (fun j a b hj ha hb => by
     rcases Nat.lt_or_ge j k with e | e
     ·exact HP.out j a b e ha hb
     ·rw [show j = k by omega, HX.out] at ha
      rw [show j = k by omega, HY.out] at hb;obtain rfl := Option.some.inj ha;obtain rfl := Option.some.inj hb;exact (sameT_iff _ _).1 hxy.out), HB5⟩
    case measure => simp [intOf]; omega
  ·have R : Hid (sameL l l' = true) := hZ (by
    rw [sameL_iff]
    exact list_ext' (by rw [HQ.out, HQ'.out]) (fun i x y hx hy => HP.out i x y (by
     have := (List.getElem?_eq_some_iff.1 hx).1
     rw [HQ.out] at this; omega) hx hy))
   go_wp2_with fail
   go_ret;exact ⟨ret_bool R.out, HB.out⟩
theorem alike_any (N : Nat) : ∀ (a b : Ty), many a <= N -> ∀ (v v' : Value) (w : World), TyV w v a -> TyV w v' b ->
  Calls Tryz.prog 110 #[v, v'] w fun e w' => e = .returned (.bool (sameT a b)) /\ Below w.heap.size w w' := by
 induction N with
 | zero => intro a b h; have := many_pos a; omega
 | succ N ih =>
 intro a b hN v v' w hv hv'
 have HIH := hZ (fun s (hs : s ∈ a.subs) (q : Ty) (v v' : Value) (w : World) (hv : TyV w v s) (hv' : TyV w v' q) => ih s q (by have := manyL_mem a.subs s hs; have := manyL_eq a; omega) v v' w hv hv')
 clear ih hN
 obtain ⟨l, rfl, hT⟩ := hv
 obtain ⟨An, cn, As, cs, rfl, -, -, -, hzn, hz, hNA, hS⟩ := hT.parts
 obtain ⟨l', rfl, hT'⟩ := hv'
 obtain ⟨Bn, cn', Bs, cs', rfl, -, -, -, hzn', hz', hNB, hS'⟩ := hT'.parts
 clear hT hT'
 obtain ⟨k, p, m, d, n, ns, ss⟩ := a
 obtain ⟨k', p', m', d', n', ns', ss'⟩ := b
 simp only [Ty.kind, Ty.pkg, Ty.major, Ty.mod, Ty.name, Ty.names, Ty.subs] at *
 have HNA := hZ hNA
 have HNB := hZ hNB
 have HSA := hZ hS
 have HSB := hZ hS'
 clear hNA hNB hS hS'
 generalize hq : ns.length = q at hzn
 generalize hq' : ns'.length = q' at hzn'
 generalize hr : ss.length = r at hz
 generalize hr' : ss'.length = r' at hz'
 have HQ := hZ hq
 have HQ' := hZ hq'
 have HR := hZ hr
 have HR' := hZ hr'
 clear hq hq' hr hr'
 by_cases h1 : k = k'
 rotate_left
 ·have R : Hid (sameT (.mk k p m d n ns ss) (.mk k' p' m' d' n' ns' ss') = false) := hZ (sameT_no (fun e => by injection e with e1 e2 e3 e4 e5 e6 e7; exact h1 e1))
  rw [R.out];have f1 : (k == k') = false := by simpa using h1
  clear h1;as_aux_lemma =>
  go_enter Tryz.func110, Tryz.ntmps110
  go_wp2_with fail
  go_ret;exact ⟨rfl, below_new (below_new (Below.refl _ _) _) _⟩
 subst h1
 by_cases h2 : p = p'
 rotate_left
 ·have R : Hid (sameT (.mk k p m d n ns ss) (.mk k p' m' d' n' ns' ss') = false) := hZ (sameT_no (fun e => by injection e with e1 e2 e3 e4 e5 e6 e7; exact h2 e2))
  rw [R.out]
  have f1 : (p.toList == p'.toList) = false := by
   rw [beq_eq_false_iff_ne, ne_eq, Lib.toList_data, Lib.toList_data, bytes_list];exact h2
  have f3 : ¬ p.toList = p'.toList := by simpa using f1
  clear h2;as_aux_lemma =>
  go_enter Tryz.func110, Tryz.ntmps110
  go_wp2_with fail
  go_ret;exact ⟨rfl, below_new (below_new (Below.refl _ _) _) _⟩
 subst h2
 by_cases h3 : m = m'
 rotate_left
 ·have R : Hid (sameT (.mk k p m d n ns ss) (.mk k p m' d' n' ns' ss') = false) := hZ (sameT_no (fun e => by injection e with e1 e2 e3 e4 e5 e6 e7; exact h3 e3))
  rw [R.out];have f1 : (m == m') = false := by simpa using h3
  clear h3;as_aux_lemma =>
  go_enter Tryz.func110, Tryz.ntmps110
  go_wp2_with fail
  go_ret;exact ⟨rfl, below_new (below_new (Below.refl _ _) _) _⟩
 subst h3
 by_cases h4 : d = d'
 rotate_left
 ·have R : Hid (sameT (.mk k p m d n ns ss) (.mk k p m d' n' ns' ss') = false) := hZ (sameT_no (fun e => by injection e with e1 e2 e3 e4 e5 e6 e7; exact h4 e4))
  rw [R.out]
  have f1 : (d.toList == d'.toList) = false := by
   rw [beq_eq_false_iff_ne, ne_eq, Lib.toList_data, Lib.toList_data, bytes_list];exact h4
  have f3 : ¬ d.toList = d'.toList := by simpa using f1
  clear h4;as_aux_lemma =>
  go_enter Tryz.func110, Tryz.ntmps110
  go_wp2_with fail
  go_ret;exact ⟨rfl, below_new (below_new (Below.refl _ _) _) _⟩
 subst h4
 by_cases h5 : n = n'
 rotate_left
 ·have R : Hid (sameT (.mk k p m d n ns ss) (.mk k p m d n' ns' ss') = false) := hZ (sameT_no (fun e => by injection e with e1 e2 e3 e4 e5 e6 e7; exact h5 e5))
  rw [R.out]
  have f1 : (n.toList == n'.toList) = false := by
   rw [beq_eq_false_iff_ne, ne_eq, Lib.toList_data, Lib.toList_data, bytes_list];exact h5
  have f3 : ¬ n.toList = n'.toList := by simpa using f1
  clear h5;as_aux_lemma =>
  go_enter Tryz.func110, Tryz.ntmps110
  go_wp2_with fail
  go_ret;exact ⟨rfl, below_new (below_new (Below.refl _ _) _) _⟩
 subst h5
 have HBX := hZ (below_new (below_new (Below.refl _ w) (.cells #[.int .i64 k, .string p, .int .i64 m, .string d, .string n, .slice An q cn, .slice As r cs] 50)) (.cells #[.int .i64 k, .string p, .int .i64 m, .string d, .string n, .slice Bn q' cn', .slice Bs r' cs'] 50))
 rcases hid_or (decide (ns = ns')) with hnn | hnn
 ·have R : Hid (sameT (.mk k p m d n ns ss) (.mk k p m d n ns' ss') = false) := hZ (sameT_no (fun e => by injection e with e1 e2 e3 e4 e5 e6 e7; have := hnn.out; simp at this; exact this e6))
  rw [R.out];as_aux_lemma =>
  go_enter Tryz.func110, Tryz.ntmps110
  go_wp2_with fail
  refine (equal_names An cn q ns Bn cn' q' ns' _ HQ.out HQ'.out hzn hzn' (HNA.out.below HBX.out) (HNB.out.below HBX.out)).mono ?_; rintro e w5 ⟨rfl, hb5⟩; rw [hnn.out]
  go_wp2_with fail
  go_ret;exact ⟨rfl, HBX.out.trans (hb5.mono HBX.out.size)⟩
 ·have R : Hid (sameT (.mk k p m d n ns ss) (.mk k p m d n ns' ss') = sameL ss ss') := hZ (by
   have h := hnn.out;simp at h;subst h;unfold sameT; simp)
  rw [R.out];as_aux_lemma =>
  go_enter Tryz.func110, Tryz.ntmps110
  go_wp2_with fail
  refine (equal_names An cn q ns Bn cn' q' ns' _ HQ.out HQ'.out hzn hzn' (HNA.out.below HBX.out) (HNB.out.below HBX.out)).mono ?_; rintro e w5 ⟨rfl, hb5⟩; rw [hnn.out]
  have HB5 := hZ (HBX.out.trans (hb5.mono HBX.out.size));obtain ⟨hc5, hf5⟩ := bcell hb5;have hz5 : w.heap.size + 1 + 1 <= w5.heap.size := by have := hb5.size; simpa using this
  have b6 : w5.cell? ⟨w.heap.size, 6, none⟩ = some (.slice As r cs) := by rw [hc5 _ _ (by simp; omega)]; go_simp
  have d6 : w5.cell? ⟨w.heap.size + 1, 6, none⟩ = some (.slice Bs r' cs') := by rw [hc5 _ _ (by simp)]; go_simp
  clear hb5 hc5 hf5;go_wp2_with fail
  refine (equal_alike As cs r ss Bs cs' r' ss' _ HR.out HR'.out hz hz' (HSA.out.below HB5.out) (HSB.out.below HB5.out) HIH.out).mono ?_; rintro e w6 ⟨rfl, hb6⟩
  go_wp2_with fail
  go_ret;exact ⟨rfl, HB5.out.trans (hb6.mono HB5.out.size)⟩
theorem sameK_any (a b : Ty) (v v' : Value) (w : World) (hv : TyV w v a) (hv' : TyV w v' b) :
  Calls Tryz.prog 72 #[v, v'] w fun e w' => e = .returned (.bool (mayT a && mayT b && sameT a b)) /\ Below w.heap.size w w' := by
 have HV := hZ hv
 have HV' := hZ hv'
 obtain ⟨l, rfl, hT⟩ := hv
 obtain ⟨An, cn, As, cs, rfl, -, -, -, hzn, hz, -, -⟩ := hT.parts
 obtain ⟨l', rfl, hT'⟩ := hv'
 obtain ⟨Bn, cn', Bs, cs', rfl, -, -, -, hzn', hz', -, -⟩ := hT'.parts
 clear hT hT'
 have HBX := hZ (below_new (below_new (Below.refl _ w) (.cells #[.int .i64 a.kind, .string a.pkg, .int .i64 a.major, .string a.mod, .string a.name, .slice An a.names.length cn, .slice As a.subs.length cs] 50)) (.cells #[.int .i64 b.kind, .string b.pkg, .int .i64 b.major, .string b.mod, .string b.name, .slice Bn b.names.length cn', .slice Bs b.subs.length cs'] 50))
 have FIRST : ∀ w5, Below ((w.alloc (.cells #[.int .i64 a.kind, .string a.pkg, .int .i64 a.major, .string a.mod, .string a.name, .slice An a.names.length cn, .slice As a.subs.length cs] 50)).alloc (.cells #[.int .i64 b.kind, .string b.pkg, .int .i64 b.major, .string b.mod, .string b.name, .slice Bn b.names.length cn', .slice Bs b.subs.length cs'] 50)).heap.size ((w.alloc (.cells #[.int .i64 a.kind, .string a.pkg, .int .i64 a.major, .string a.mod, .string a.name, .slice An a.names.length cn, .slice As a.subs.length cs] 50)).alloc (.cells #[.int .i64 b.kind, .string b.pkg, .int .i64 b.major, .string b.mod, .string b.name, .slice Bn b.names.length cn', .slice Bs b.subs.length cs'] 50)) w5 ->
   (∀ i v, (#[.int .i64 a.kind, .string a.pkg, .int .i64 a.major, .string a.mod, .string a.name, .slice An a.names.length cn, .slice As a.subs.length cs] : Array Value)[i]? = some v -> w5.cell? ⟨w.heap.size, i, none⟩ = some v) /\
   (∀ i v, (#[.int .i64 b.kind, .string b.pkg, .int .i64 b.major, .string b.mod, .string b.name, .slice Bn b.names.length cn', .slice Bs b.subs.length cs'] : Array Value)[i]? = some v -> w5.cell? ⟨w.heap.size + 1, i, none⟩ = some v) := fun w5 hb => by
  constructor
  ·intro i v hv
   rw [(bcell hb).1 _ _ (by simp; omega), cZ (cs := #[.int .i64 a.kind, .string a.pkg, .int .i64 a.major, .string a.mod, .string a.name, .slice An a.names.length cn, .slice As a.subs.length cs]) (T := 50) (fr := (0, 0))]
   ·exact hv
   ·rw [Lib.alloc_old _ _ _ (by simp)]; exact heap_alloc_new _ _
  ·intro i v hv
   rw [(bcell hb).1 _ _ (by simp), cZ (cs := #[.int .i64 b.kind, .string b.pkg, .int .i64 b.major, .string b.mod, .string b.name, .slice Bn b.names.length cn', .slice Bs b.subs.length cs']) (T := 50) (fr := (0, 0))]
   ·exact hv
   ·have e : w.heap.size + 1 = (w.alloc (.cells #[.int .i64 a.kind, .string a.pkg, .int .i64 a.major, .string a.mod, .string a.name, .slice An a.names.length cn, .slice As a.subs.length cs] 50)).heap.size := by simp
    rw [e]; exact heap_alloc_new _ _
 have HFI := hZ FIRST
 clear FIRST
 go_enter Tryz.func72, Tryz.ntmps72
 rcases hid_or (mayT a) with ha | ha
 ·have R : Hid ((mayT a && mayT b && sameT a b) = false) := hZ (by rw [ha.out]; rfl)
  go_wp2_with fail
  refine (mayK_any a _ _ (HV.out.below HBX.out)).mono ?_; rintro e w5 ⟨rfl, hb5⟩; rw [ha.out]
  have HB5 := hZ (HBX.out.trans (hb5.mono HBX.out.size));clear hb5;go_wp2_with fail
  go_ret;exact ⟨ret_bool R.out, HB5.out⟩
 go_wp2_with fail
 refine (mayK_any a _ _ (HV.out.below HBX.out)).mono ?_; rintro e w5 ⟨rfl, hb5⟩; rw [ha.out]
 obtain ⟨FA, FB⟩ := HFI.out w5 hb5
 have HB5 := hZ (HBX.out.trans (hb5.mono HBX.out.size))
 have hz5 : w.heap.size + 1 + 1 <= w5.heap.size := by have := hb5.size; simpa using this
 have a0 := FA 0 _ rfl
 have a1 := FA 1 _ rfl
 have a2 := FA 2 _ rfl
 have a3 := FA 3 _ rfl
 have a4 := FA 4 _ rfl
 have a5 := FA 5 _ rfl
 have a6 := FA 6 _ rfl
 have b0 := FB 0 _ rfl
 have b1 := FB 1 _ rfl
 have b2 := FB 2 _ rfl
 have b3 := FB 3 _ rfl
 have b4 := FB 4 _ rfl
 have b5 := FB 5 _ rfl
 have b6 := FB 6 _ rfl
 have HFA := hZ FA
 have HFB := hZ FB
 clear hb5 FA FB
 rcases hid_or (mayT b) with hb | hb
 ·have R : Hid ((mayT a && mayT b && sameT a b) = false) := hZ (by rw [ha.out, hb.out]; rfl)
  go_wp2_with fail
  refine (mayK_any b _ _ (HV'.out.below HB5.out)).mono ?_; rintro e w6 ⟨rfl, hb6⟩; rw [hb.out]
  have HB6 := hZ (HB5.out.trans (hb6.mono HB5.out.size));clear hb6;go_wp2_with fail
  go_ret;exact ⟨ret_bool R.out, HB6.out⟩
 have R : Hid ((mayT a && mayT b && sameT a b) = sameT a b) := hZ (by rw [ha.out, hb.out]; rfl)
 go_wp2_with fail
 refine (mayK_any b _ _ (HV'.out.below HB5.out)).mono ?_; rintro e w6 ⟨rfl, hb6⟩; rw [hb.out]
 have HB6 := hZ (HB5.out.trans (hb6.mono HB5.out.size))
 have tr : ∀ j i v, j < w5.heap.size -> w5.cell? ⟨j, i, none⟩ = some v -> w6.cell? ⟨j, i, none⟩ = some v := fun j i v hj hv => (hb6.cell (p := ⟨j, i, none⟩) hj).trans hv
 have a0' := tr _ _ _ (by omega) a0
 have a1' := tr _ _ _ (by omega) a1
 have a2' := tr _ _ _ (by omega) a2
 have a3' := tr _ _ _ (by omega) a3
 have a4' := tr _ _ _ (by omega) a4
 have a5' := tr _ _ _ (by omega) a5
 have a6' := tr _ _ _ (by omega) a6
 have b0' := tr _ _ _ (by omega) b0
 have b1' := tr _ _ _ (by omega) b1
 have b2' := tr _ _ _ (by omega) b2
 have b3' := tr _ _ _ (by omega) b3
 have b4' := tr _ _ _ (by omega) b4
 have b5' := tr _ _ _ (by omega) b5
 have b6' := tr _ _ _ (by omega) b6
 clear a0 a1 a2 a3 a4 a5 a6 b0 b1 b2 b3 b4 b5 b6 tr hb6
 go_wp2_with fail
 refine (alike_any _ a b (Nat.le_refl _) _ _ _ (HV.out.below HB6.out) (HV'.out.below HB6.out)).mono ?_; rintro e w7 ⟨rfl, hb7⟩
 go_wp2_with fail
 go_ret
 exact ⟨ret_bool R.out, HB6.out.trans (hb7.mono HB6.out.size)⟩
theorem plainK_any (t : Ty) (v : Value) (w : World) (hv : TyV w v t) :
  Calls Tryz.prog 76 #[v] w fun e w' => e = .returned (.bool (mayT t && plainT t)) /\ Below w.heap.size w w' := by
 have HV := hZ hv
 obtain ⟨l, rfl, hT⟩ := hv
 obtain ⟨An, cn, As, cs, rfl, -, -, -, hzn, hz, -, -⟩ := hT.parts
 clear hT
 have HB0 := hZ (below_new (Below.refl _ w) (.cells #[.int .i64 t.kind, .string t.pkg, .int .i64 t.major, .string t.mod, .string t.name, .slice An t.names.length cn, .slice As t.subs.length cs] 50))
 rcases hid_or (mayT t) with ha | ha
 ·have R : Hid ((mayT t && plainT t) = false) := hZ (by rw [ha.out]; rfl)
  rw [R.out];go_enter Tryz.func76, Tryz.ntmps76
  go_wp2_with fail
  refine (mayK_any t _ _ (HV.out.below HB0.out)).mono ?_; rintro e w5 ⟨rfl, hb5⟩; rw [ha.out]
  go_wp2_with fail
  go_ret;exact ⟨rfl, HB0.out.trans (hb5.mono HB0.out.size)⟩
 ·have R : Hid ((mayT t && plainT t) = plainT t) := hZ (by rw [ha.out]; rfl)
  rw [R.out];go_enter Tryz.func76, Tryz.ntmps76
  go_wp2_with fail
  refine (mayK_any t _ _ (HV.out.below HB0.out)).mono ?_; rintro e w5 ⟨rfl, hb5⟩; rw [ha.out]
  have hb5' : Below (boxed w #[.int .i64 t.kind, .string t.pkg, .int .i64 t.major, .string t.mod, .string t.name, .slice An t.names.length cn, .slice As t.subs.length cs]).heap.size (boxed w #[.int .i64 t.kind, .string t.pkg, .int .i64 t.major, .string t.mod, .string t.name, .slice An t.names.length cn, .slice As t.subs.length cs]) w5 := hb5
  have HB5 := hZ (box_below hb5');have c0 := box_cell hb5' 0; have c1 := box_cell hb5' 1; have c2 := box_cell hb5' 2; have c3 := box_cell hb5' 3; have c4 := box_cell hb5' 4; have c5 := box_cell hb5' 5; have c6 := box_cell hb5' 6
  simp at c0 c1 c2 c3 c4 c5 c6;clear hb5 hb5';go_wp2_with fail
  refine (local_any _ t (Nat.le_refl _) _ _ (HV.out.below HB5.out)).mono ?_; rintro e w6 ⟨rfl, hb6⟩
  go_wp2_with fail
  go_ret;exact ⟨ret_bool (by simp), HB5.out.trans (hb6.mono HB5.out.size)⟩
end Go.Proofs.YtddlmigofilejaaGreat
namespace Go.Proofs.YtddlmigofilejaaGreat
open Go Go.RowKit Go.Shelf
open Go.Sort Go.Maps
open M
section
variable {ops : Array Oper} {rest : List Oper} {o : Oper} {act : Act} {Q : Exit -> Act -> World -> Prop}
end
section
variable {ops : Array Oper} {rest : List Oper} {o : Oper} {act : Act} {Q : Exit -> Act -> World -> Prop}
end
end Go.Proofs.YtddlmigofilejaaGreat
