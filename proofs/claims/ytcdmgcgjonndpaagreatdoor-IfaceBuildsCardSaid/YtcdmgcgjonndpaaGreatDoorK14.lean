/-
  Several texts in one.
-/
import Derived.Test.YtcdmgcgjonndpaaGreatDoorK13
set_option maxRecDepth 100000
set_option maxHeartbeats 8000000
namespace Go.Proofs.YtcdmgcgjonndpaaGreatDoor
open Go.RowKit
open M
theorem local_great {t : Ty} (h : ownOk t = true) (hk : t.kind = 8) : greatB t.name.data.toList = true := by
  unfold ownOk shapeOk at h
  rw [hk] at h;simp only [Bool.and_eq_true, decide_eq_true_eq, reduceCtorEq, if_neg (show ¬ ((8 : Int) = 1 \/ (8 : Int) = 2 \/ (8 : Int) = 3) by decide), if_neg (show ¬ (8 : Int) = 4 by decide), if_neg (show ¬ (8 : Int) = 5 by decide), if_neg (show ¬ (8 : Int) = 6 by decide), if_neg (show ¬ (8 : Int) = 7 by decide), if_pos] at h;exact h.2.1.2
theorem open_ok {m : Mo} {pkg : ByteArray} {major : Int} {name : ByteArray} (hm : mayM m = true) (hp : smallB pkg.data.toList = true) (h1 : 1 <= major) (h2 : major <= 999999999) (hn : greatB name.data.toList = true) : allOk (openT m pkg major name) = true := by
  have hs : smallB m.name.data.toList = true := by
    unfold mayM at hm
    simp only [Bool.and_eq_true] at hm;exact hm.1
  rw [allOk_eq];unfold openT ownOk shapeOk
  simp [Ty.kind, Ty.subs, Ty.names, Ty.pkg, Ty.mod, Ty.name, Ty.major, namesOk, allOkL, hs, hp, hn, h1, h2]
theorem with_ok {t : Ty} {us : List Ty} (h : ownOk t = true) (hl : us.length = t.subs.length) : ownOk (Ty.withSubs t us) = true := by
  cases t with
  | mk k p j d n ns ss =>
    unfold ownOk shapeOk noMore at h ⊢
    simp only [Ty.withSubs, Ty.kind, Ty.pkg, Ty.major, Ty.mod, Ty.name, Ty.names, Ty.subs] at h hl ⊢;simp only [hl]; exact h
theorem exp_ok {m : Mo} {pkg : ByteArray} {major : Int} {env : List If} (hm : mayM m = true) (hp : smallB pkg.data.toList = true) (h1 : 1 <= major) (h2 : major <= 999999999) : ∀ (h : Nat) (t u : Ty), allOk t = true -> ExpH (meanT m pkg major env) h t u -> allOk u = true := by
  intro h;induction h with
  | zero => intro t u _ hx; exact hx.elim
  | succ h ih =>
    intro t u ht hx;rcases hx with ⟨h8, s, hs, hx⟩ | ⟨h8, us, rfl, hl, hx⟩
    · refine ih s u ?_ hx
      unfold meanT at hs
      split at hs
      · split at hs
        · cases hs
        · rename_i k hk
          obtain ⟨d, hd⟩ := dec_at (typAt_lt hk);rw [hd] at hs;simp only [Option.map_some, Option.some.injEq] at hs;have ho : ownOk t = true := by rw [allOk_eq, Bool.and_eq_true] at ht; exact ht.1
          split at hs
          · rename_i h3
            rcases mayD_sorts ((mayM_parts hm).2.2.2 d (List.mem_of_getElem? hd)) with ⟨e, -⟩ | ⟨-, e, -⟩ | ⟨e, -⟩
            · rcases e with e | e <;> rw [h3] at e <;> cases e
            · rw [<- hs]; unfold mayT at e; simp only [Bool.and_eq_true] at e; exact e.1.1
            · rw [h3] at e; cases e
          · rw [<- hs]; exact open_ok hm hp h1 h2 (local_great ho h8)
      · have := (thereT_plain hs).1
        unfold mayT at this
        simp only [Bool.and_eq_true] at this;exact this.1.1
    · rw [allOk_eq, Bool.and_eq_true] at ht ⊢
      refine ⟨with_ok ht.1 hl, (allOkL_mem _).2 fun v hv => ?_⟩;replace hv : v ∈ us := hv
      obtain ⟨i, hi⟩ := List.mem_iff_getElem?.1 hv;have hil := (List.getElem?_eq_some_iff.1 hi).1;have hs : t.subs[i]? = some t.subs[i] := List.getElem?_eq_getElem (by omega);exact ih _ v ((allOkL_mem _).1 ht.2 _ (List.mem_of_getElem? hs)) (hx i _ v hs hi)
theorem exp_one {mean : Ty -> Option Ty} : ∀ (h h' : Nat) (t u u' : Ty), ExpH mean h t u -> ExpH mean h' t u' -> u = u' := by
  intro h;induction h with
  | zero => intro h' t u u' hx; exact hx.elim
  | succ h ih =>
    intro h' t u u' hx hy;cases h' with
    | zero => exact hy.elim
    | succ h' =>
      rcases hx with ⟨h8, s, hs, hx⟩ | ⟨h8, us, rfl, hl, hx⟩ <;> rcases hy with ⟨h8', s', hs', hy⟩ | ⟨h8', us', rfl, hl', hy⟩
      · rw [hs] at hs'
        cases hs'
        exact ih h' s u u' hx hy
      · exact absurd h8 h8'
      · exact absurd h8' h8
      · have : us = us' := by
          apply List.ext_getElem? 
          intro i;by_cases hi : i < t.subs.length
          · have h1 : us[i]? = some us[i] := List.getElem?_eq_getElem (by omega)
            have h2 : us'[i]? = some us'[i] := List.getElem?_eq_getElem (by omega);have h3 : t.subs[i]? = some t.subs[i] := List.getElem?_eq_getElem hi;rw [h1, h2, ih h' _ _ _ (hx i _ _ h3 h1) (hy i _ _ h3 h2)]
          · rw [List.getElem?_eq_none (by omega), List.getElem?_eq_none (by omega)]
        rw [this]
end Go.Proofs.YtcdmgcgjonndpaaGreatDoor
namespace Go.Proofs.YtcdmgcgjonndpaaGreatDoor
open Go Go.ChangeShapes Go.WideShapes Go.ChangeAt Go.RowKit Go.Joins Go.Deep
open M
def nmE (w : World) (l : List Value) (x : Nm) : Prop := x.name.size <= 9223372036854775807 /\ ∃ l7 : List Value, l = .string x.name :: l7 /\ TyAt w l7 x.typ
def nmR : Reads Nm := ⟨8, 49, nmE, fun _ _ _ _ _ _ ⟨hs, l7, e, h⟩ hz hb => ⟨hs, l7, e, h.move hz hb⟩, fun _ _ _ _ ⟨hs, l7, e, h⟩ hb => ⟨hs, l7, e, h.keep hb⟩, fun _ _ _ _ ⟨hs, l7, e, h⟩ => ⟨hs, l7, e, h.free⟩, fun _ l x ⟨_, l7, e, h⟩ => by rw [e]; simp [h.len]⟩
def ifE (w : World) (l : List Value) (x : If) : Prop :=
  ∃ (At : Option Addr) (ct : Nat) (Av : Option Addr) (cv : Nat), l = [.string x.pkg, .int .i64 x.major, .string x.mod, .slice At x.types.length ct, .slice Av x.vals.length cv] /\ x.pkg.size <= 9223372036854775807 /\ x.mod.size <= 9223372036854775807 /\ x.types.length <= 9223372036854775807 /\ x.vals.length <= 9223372036854775807 /\ RowIn nmR w At x.types /\ RowIn nmR w Av x.vals
def ifR : Reads If := ⟨5, 32, ifE, fun _ _ _ _ _ _ ⟨At, ct, Av, cv, e, h1, h2, h3, h4, h5, h6⟩ hz hb => ⟨At, ct, Av, cv, e, h1, h2, h3, h4, h5.move hz hb, h6.move hz hb⟩, fun _ _ _ _ ⟨At, ct, Av, cv, e, h1, h2, h3, h4, h5, h6⟩ hb => ⟨At, ct, Av, cv, e, h1, h2, h3, h4, h5.below hb, h6.below hb⟩, fun _ _ _ _ ⟨At, ct, Av, cv, e, h1, h2, h3, h4, h5, h6⟩ => ⟨At, ct, Av, cv, e, h1, h2, h3, h4, h5.free, h6.free⟩, fun _ l x ⟨At, ct, Av, cv, e, _⟩ => by rw [e]; rfl⟩
theorem RowIn.nm {w : World} {A : Option Addr} {xs : List Nm} (h : RowIn nmR w A xs) {i : Nat} {x : Nm} (hx : xs[i]? = some x) : ∃ (g o : Nat) (Bn : Option Addr) (cB : Nat) (Bs : Option Addr) (dB : Nat), A = some ⟨g, o, none⟩ /\ g < w.heap.size /\
    w.cell? ⟨g, o + i * 8, none⟩ = some (.string x.name) /\ w.cell? ⟨g, o + i * 8 + 1, none⟩ = some (.int .i64 x.typ.kind) /\ w.cell? ⟨g, o + i * 8 + 1 + 1, none⟩ = some (.string x.typ.pkg) /\ w.cell? ⟨g, o + i * 8 + 1 + 2, none⟩ = some (.int .i64 x.typ.major) /\ w.cell? ⟨g, o + i * 8 + 1 + 3, none⟩ = some (.string x.typ.mod) /\
    w.cell? ⟨g, o + i * 8 + 1 + 4, none⟩ = some (.string x.typ.name) /\ w.cell? ⟨g, o + i * 8 + 1 + 5, none⟩ = some (.slice Bn x.typ.names.length cB) /\ w.cell? ⟨g, o + i * 8 + 1 + 6, none⟩ = some (.slice Bs x.typ.subs.length dB) /\ TyAt w [.int .i64 x.typ.kind, .string x.typ.pkg, .int .i64 x.typ.major, .string x.typ.mod, .string x.typ.name, .slice Bn x.typ.names.length cB, .slice Bs x.typ.subs.length dB] x.typ /\ x.name.size <= 9223372036854775807 := by
  obtain ⟨g, o, l, hA, hg, hc, hs, l7, rfl, hT⟩ := h i x hx;obtain ⟨Bn, cB, Bs, dB, rfl, -⟩ := hT.parts;exact ⟨g, o, Bn, cB, Bs, dB, hA, hg, hc 0 _ rfl, hc 1 _ rfl, hc 2 _ rfl, hc 3 _ rfl, hc 4 _ rfl, hc 5 _ rfl, hc 6 _ rfl, hc 7 _ rfl, hT, hs⟩
theorem RowIn.ifc {w : World} {A : Option Addr} {xs : List If} (h : RowIn ifR w A xs) {i : Nat} {x : If} (hx : xs[i]? = some x) : ∃ (g o : Nat) (At : Option Addr) (ct : Nat) (Av : Option Addr) (cv : Nat), A = some ⟨g, o, none⟩ /\ g < w.heap.size /\
    w.cell? ⟨g, o + i * 5, none⟩ = some (.string x.pkg) /\ w.cell? ⟨g, o + i * 5 + 1, none⟩ = some (.int .i64 x.major) /\ w.cell? ⟨g, o + i * 5 + 2, none⟩ = some (.string x.mod) /\ w.cell? ⟨g, o + i * 5 + 3, none⟩ = some (.slice At x.types.length ct) /\ w.cell? ⟨g, o + i * 5 + 4, none⟩ = some (.slice Av x.vals.length cv) /\
    x.pkg.size <= 9223372036854775807 /\ x.mod.size <= 9223372036854775807 /\ x.types.length <= 9223372036854775807 /\ x.vals.length <= 9223372036854775807 /\ RowIn nmR w At x.types /\ RowIn nmR w Av x.vals := by
  obtain ⟨g, o, l, hA, hg, hc, At, ct, Av, cv, rfl, h1, h2, h3, h4, h5, h6⟩ := h i x hx;exact ⟨g, o, At, ct, Av, cv, hA, hg, hc 0 _ rfl, hc 1 _ rfl, hc 2 _ rfl, hc 3 _ rfl, hc 4 _ rfl, h1, h2, h3, h4, h5, h6⟩
section
variable {H : Type} {enc : TypeId × Value -> H} {w : World} {base : Nat} {sp : Nat -> Bool} {held : Bool}
theorem nmCells : Tryz.prog.cellsOf 49 = 8 := by kernel_rfl
theorem ifCells : Tryz.prog.cellsOf 32 = 5 := by kernel_rfl
theorem nmCellsL : Tryz.prog.cellsOf 30 = 1 := by kernel_rfl
theorem list8 {α : Type} : ∀ l : List α, l.length = 8 -> ∃ a r, l = a :: r /\ r.length = 7
  | a :: r, h => ⟨a, r, rfl, by simpa using h⟩
  | [], h => by simp at h
theorem list5 {α : Type} : ∀ l : List α, l.length = 5 -> ∃ a b c d e, l = [a, b, c, d, e]
  | [a, b, c, d, e], _ => ⟨a, b, c, d, e, rfl⟩
  | [], h => by simp at h
  | [_], h => by simp at h
  | [_, _], h => by simp at h
  | [_, _, _], h => by simp at h
  | [_, _, _, _], h => by simp at h
  | _ :: _ :: _ :: _ :: _ :: _ :: _, h => by simp at h
theorem open_nm (n : Nat) (cs : List Value) (x : DataW H × List MemPlace) (h : DataW.trod enc Tryz.prog w base sp held n 49 cs = some x) : ∃ a, nmE w cs a := by
  obtain ⟨xs, n, hfuel, -, hlen, hxl, hf⟩ := DataW.trod_struct Tryz.underlying49 h;rw [nmCells] at hlen;obtain ⟨c0, r, rfl, hr⟩ := list8 cs hlen;have q : ∀ j, j < 2 -> ∃ y, xs[j]? = some y := fun j hj => ⟨_, List.getElem?_eq_getElem (by rw [hxl]; exact hj)⟩
  obtain ⟨y0, e0⟩ := q 0 (by omega); obtain ⟨y1, e1⟩ := q 1 (by omega)
  have g0 : DataW.trod enc Tryz.prog w base sp held n 9 (((c0 :: r).drop 0).take (Tryz.prog.cellsOf 9)) = some y0 := (hf 0 _ rfl).trans e0;have g1 : DataW.trod enc Tryz.prog w base sp held n 45 (((c0 :: r).drop 1).take (Tryz.prog.cellsOf 45)) = some y1 := (hf 1 _ rfl).trans e1;rw [tyCellsStr] at g0;rw [tyCells, show ((c0 :: r).drop 1).take 7 = r by simp [<- hr]] at g1;obtain ⟨s, k0, -, z0⟩ := DataW.trod_string Tryz.underlying9 g0;obtain ⟨t, ht⟩ := open_tree _ _ _ g1;simp at k0;subst k0;unfold maxLen at z0
  exact ⟨⟨s, t⟩, z0, r, rfl, ht⟩
theorem open_if (n : Nat) (cs : List Value) (x : DataW H × List MemPlace) (h : DataW.trod enc Tryz.prog w base sp held n 32 cs = some x) : ∃ a, ifE w cs a := by
  obtain ⟨xs, n, hfuel, -, hlen, hxl, hf⟩ := DataW.trod_struct Tryz.underlying32 h;rw [ifCells] at hlen;obtain ⟨c0, c1, c2, c3, c4, rfl⟩ := list5 cs hlen;have q : ∀ j, j < 5 -> ∃ y, xs[j]? = some y := fun j hj => ⟨_, List.getElem?_eq_getElem (by rw [hxl]; exact hj)⟩
  obtain ⟨y0, e0⟩ := q 0 (by omega); obtain ⟨y1, e1⟩ := q 1 (by omega); obtain ⟨y2, e2⟩ := q 2 (by omega); obtain ⟨y3, e3⟩ := q 3 (by omega); obtain ⟨y4, e4⟩ := q 4 (by omega)
  have g0 : DataW.trod enc Tryz.prog w base sp held n 9 (([c0, c1, c2, c3, c4].drop 0).take (Tryz.prog.cellsOf 9)) = some y0 := (hf 0 _ rfl).trans e0;have g1 : DataW.trod enc Tryz.prog w base sp held n 3 (([c0, c1, c2, c3, c4].drop 1).take (Tryz.prog.cellsOf 3)) = some y1 := (hf 1 _ rfl).trans e1;have g2 : DataW.trod enc Tryz.prog w base sp held n 9 (([c0, c1, c2, c3, c4].drop 2).take (Tryz.prog.cellsOf 9)) = some y2 := (hf 2 _ rfl).trans e2;have g3 : DataW.trod enc Tryz.prog w base sp held n 30 (([c0, c1, c2, c3, c4].drop 3).take (Tryz.prog.cellsOf 30)) = some y3 := (hf 3 _ rfl).trans e3;have g4 : DataW.trod enc Tryz.prog w base sp held n 30 (([c0, c1, c2, c3, c4].drop 4).take (Tryz.prog.cellsOf 30)) = some y4 := (hf 4 _ rfl).trans e4;rw [tyCellsStr] at g0 g2;rw [tyCellsInt] at g1;rw [nmCellsL] at g3 g4;obtain ⟨p, k0, -, z0⟩ := DataW.trod_string Tryz.underlying9 g0;obtain ⟨m, k1, -, -⟩ := DataW.trod_int Tryz.underlying3 g1;obtain ⟨d, k2, -, z2⟩ := DataW.trod_string Tryz.underlying9 g2;have h3 : DataW.trod enc Tryz.prog w base sp held n 30 [c3] = some y3 := g3;have h4 : DataW.trod enc Tryz.prog w base sp held n 30 [c4] = some y4 := g4;obtain ⟨At, ct, lt, rfl, hlt, kT, hT⟩ := open_rows7 nmR 30 ⟨⟨#[]⟩, noT⟩ Tryz.underlying30 nmCells (by decide) open_nm h3;obtain ⟨Av, cv, lv, rfl, hlv, kV, hV⟩ := open_rows7 nmR 30 ⟨⟨#[]⟩, noT⟩ Tryz.underlying30 nmCells (by decide) open_nm h4;simp at k0 k1 k2;subst k0 k1 k2;unfold maxLen at z0 z2 hlt hlv
  exact ⟨⟨p, m, d, lt, lv⟩, At, ct, Av, cv, rfl, z0, z2, hlt, hlv, hT, hV⟩
theorem open_env {r : Go.Reach} {b0 : Nat} {v : Value} {d : DataW H} {p : List MemPlace} (hv : Value.okWide Tryz.prog w r b0 26 v) (h : DataW.Trod enc Tryz.prog w base sp held 26 v d p) : ∃ (A : Option Addr) (c : Nat) (env : List If), v = .slice A env.length c /\ env.length <= maxLen /\ RowIn ifR w A env := by
  obtain ⟨a, n, c, rfl⟩ := okWide_slice Tryz.underlying26 hv;obtain ⟨fuel, hf⟩ := h;have hf' : DataW.trod enc Tryz.prog w base sp held fuel 26 [.slice a n c] = some (d, p) := hf
  obtain ⟨A, c, l, e, hl, -, hR⟩ := open_rows7 ifR 26 ⟨⟨#[]⟩, 0, ⟨#[]⟩, [], []⟩ Tryz.underlying26 ifCells (by decide) open_if hf';exact ⟨A, c, l, e, hl, hR⟩
end
end Go.Proofs.YtcdmgcgjonndpaaGreatDoor
namespace Go.Proofs.YtcdmgcgjonndpaaGreatDoor
open Go Go.RowKit Go.Shelf
open Go.Sort Go.Maps
open M
def optN : Option Nat -> Int
  | some i => i
  | none => -1
theorem idx_yes {α : Type} {p : α -> Bool} {l : List α} {k : Nat} {x : α} (hx : l[k]? = some x) (hn : ∀ y ∈ l.take k, p y = false) (h : p x = true) : l.findIdx? p = some k := by
  rw [List.findIdx?_eq_some_iff_getElem];obtain ⟨hk, rfl⟩ := List.getElem?_eq_some_iff.1 hx;refine ⟨hk, h, fun j hj => ?_⟩;rw [hn _ (List.mem_of_getElem? (i := j) (by rw [List.getElem?_take, if_pos hj]; exact List.getElem?_eq_getElem (by omega)))];simp
theorem idx_no {α : Type} {p : α -> Bool} {l : List α} (hn : ∀ x ∈ l, p x = false) : l.findIdx? p = none := by rw [List.findIdx?_eq_none_iff]; exact hn
theorem rof8_any (A : Option Addr) (c : Nat) (l : List Nm) (s : ByteArray) (w : World) (h : RowIn nmR w A l) (hl : l.length <= 9223372036854775807) :
    Calls Tryz.prog 139 #[.slice A l.length c, .string s] w fun e w' => e = .returned (.int .i64 (optN (ofI l s))) /\ Below w.heap.size w w' := by
  have HR := hZ h;obtain ⟨n, hn⟩ : ∃ n, n = l.length := ⟨_, rfl⟩;have HN := hZ hn;rw [<- hn] at hl ⊢;clear h hn;go_enter Tryz.func139, Tryz.ntmps139
  go_wp2_with fail
  go_loopw [5] (fun s5 wr => ∃ k : Nat, k <= n /\ s5 = .int .i64 k /\ Hid (∀ x ∈ l.take k, isNm s x = false) /\ Hid (Below w.heap.size w wr)) (fun s5 _ => n - (intOf s5).toNat)
  case atStart => exact ⟨0, by omega, rfl, hZ (by simp), hZ (Below.refl _ _)⟩
  case round =>
    obtain ⟨k, hk, rfl, HNO, HB⟩ := hrel;obtain ⟨wo, rfl⟩ : ∃ wo : World, wo = wr := ⟨_, rfl⟩;by_cases hlt : k < n
    · obtain ⟨x, hx⟩ : ∃ x, l[k]? = some x := ⟨_, List.getElem?_eq_getElem (by rw [<- HN.out]; exact hlt)⟩
      obtain ⟨g, o, Bn, cB, Bs, dB, rfl, hg, a0, -⟩ := (HR.out.below HB.out).nm hx;have hq := str_eq x.name s;have HX := hZ hx;have hk0 : (0 : Int) <= k := by omega
      have hk1 : (k : Int) < n := by omega
      clear hx;by_cases hs : x.name = s
      · have RES : Hid (ofI l s = some k) := hZ (idx_yes HX.out HNO.out (by simp [isNm, hs]))
        rw [decide_eq_true hs] at hq;clear hs;go_wp2_with fail
        go_ret;exact ⟨by rw [RES.out]; rfl, HB.out⟩
      · have NX : Hid (∀ y ∈ l.take (k + 1), isNm s y = false) := hZ (fun y hy => by
          rw [List.take_add_one, HX.out] at hy;rcases List.mem_append.1 hy with h | h
          · exact HNO.out y h
          · simp at h; rw [h]; simp [isNm, hs])
        rw [decide_eq_false hs] at hq;clear hs;go_wp2_with fail
        go_roundw
        case rel => exact ⟨k + 1, by omega, by go_num, NX, HB⟩
        case measure => simp [intOf]; omega
    · have RES : Hid (ofI l s = none) := hZ (idx_no (fun x hx => HNO.out x (by rw [List.take_of_length_le (by rw [<- HN.out]; omega)]; exact hx)))
      go_wp2_with fail
      go_ret;exact ⟨by rw [RES.out]; rfl, HB.out⟩
theorem rfind8_any (A : Option Addr) (c : Nat) (env : List If) (p : ByteArray) (j : Int) (d : ByteArray) (w : World) (h : RowIn ifR w A env) (hl : env.length <= 9223372036854775807) :
    Calls Tryz.prog 138 #[.slice A env.length c, .string p, .int .i64 j, .string d] w fun e w' => e = .returned (.int .i64 (optN (findI env p j d))) /\ Below w.heap.size w w' := by
  have HR := hZ h;obtain ⟨n, hn⟩ : ∃ n, n = env.length := ⟨_, rfl⟩;have HN := hZ hn;rw [<- hn] at hl ⊢;clear h hn;go_enter Tryz.func138, Tryz.ntmps138
  go_wp2_with fail
  go_loopw [9] (fun s9 wr => ∃ k : Nat, k <= n /\ s9 = .int .i64 k /\ Hid (∀ x ∈ env.take k, isIf p j d x = false) /\ Hid (Below w.heap.size w wr)) (fun s9 _ => n - (intOf s9).toNat)
  case atStart => exact ⟨0, by omega, rfl, hZ (by simp), hZ (Below.refl _ _)⟩
  case round =>
    obtain ⟨k, hk, rfl, HNO, HB⟩ := hrel;obtain ⟨wo, rfl⟩ : ∃ wo : World, wo = wr := ⟨_, rfl⟩;by_cases hlt : k < n
    · obtain ⟨x, hx⟩ : ∃ x, env[k]? = some x := ⟨_, List.getElem?_eq_getElem (by rw [<- HN.out]; exact hlt)⟩
      obtain ⟨g, o, At, ct, Av, cv, rfl, hg, a0, a1, a2, -⟩ := (HR.out.below HB.out).ifc hx;have hq := str_eq x.pkg p;have hr := str_eq x.mod d;have HX := hZ hx;have hk0 : (0 : Int) <= k := by omega
      have hk1 : (k : Int) < n := by omega
      have hjj : ∃ b, (x.major == j) = b := ⟨_, rfl⟩;obtain ⟨b2, hb2⟩ := hjj;obtain ⟨b1, hb1⟩ : ∃ b, b = decide (x.pkg = p) := ⟨_, rfl⟩;obtain ⟨b3, hb3⟩ : ∃ b, b = decide (x.mod = d) := ⟨_, rfl⟩;rw [<- hb1] at hq;rw [<- hb3] at hr;have HIF : Hid (isIf p j d x = (b1 && (b2 && b3))) := hZ (by rw [hb1, hb3, <- hb2]; rfl);clear hx hb1 hb3;cases hbb : (b1 && (b2 && b3)) with
      | true =>
        have RES : Hid (findI env p j d = some k) := hZ (idx_yes HX.out HNO.out (by rw [HIF.out, hbb]));simp only [Bool.and_eq_true] at hbb;obtain ⟨rfl, rfl, rfl⟩ := hbb;go_wp2_with fail
        go_ret;exact ⟨by rw [RES.out]; rfl, HB.out⟩
      | false =>
        have NX : Hid (∀ y ∈ env.take (k + 1), isIf p j d y = false) := hZ (fun y hy => by
          rw [List.take_add_one, HX.out] at hy;rcases List.mem_append.1 hy with h | h
          · exact HNO.out y h
          · simp at h; rw [h, HIF.out, hbb])
        cases b1 with
        | false =>
          clear hbb;go_wp2_with fail
          go_roundw
          case rel => exact ⟨k + 1, by omega, by go_num, NX, HB⟩
          case measure => simp [intOf]; omega
        | true =>
          cases b2 with
          | false =>
            clear hbb;go_wp2_with fail
            go_roundw
            case rel => exact ⟨k + 1, by omega, by go_num, NX, HB⟩
            case measure => simp [intOf]; omega
          | true =>
            obtain rfl : b3 = false := by simpa using hbb
            clear hbb;go_wp2_with fail
            go_roundw
            case rel => exact ⟨k + 1, by omega, by go_num, NX, HB⟩
            case measure => simp [intOf]; omega
    · have RES : Hid (findI env p j d = none) := hZ (idx_no (fun x hx => HNO.out x (by rw [List.take_of_length_le (by rw [<- HN.out]; omega)]; exact hx)))
      go_wp2_with fail
      go_ret;exact ⟨by rw [RES.out]; rfl, HB.out⟩
end Go.Proofs.YtcdmgcgjonndpaaGreatDoor
namespace Go.Proofs.YtcdmgcgjonndpaaGreatDoor
open Go.RowKit
open Go.Sort Go.Maps
open M
def isDe (s : ByteArray) (d : De) : Bool := decide (d.name = s)
def isAs (s : ByteArray) (x : Im) : Bool := decide (x.asn = s)
theorem pIf_one (y : If) (At : Option Addr) (ct : Nat) (Av : Option Addr) (cv : Nat) (x : Im) (xb : Nat) (w : World) (hx : w.heap[xb]? = some (.cells #[.string x.pkg, .int .i64 x.major, .string x.mod, .string x.asn] 84 (0, 0))) :
  Calls Tryz.prog 172 #[.agg #[.string y.pkg, .int .i64 y.major, .string y.mod, .slice At y.types.length ct, .slice Av y.vals.length cv], .pointer (some ⟨xb, 0, none⟩)] w fun e w' => e = .returned (.bool (isIf x.pkg x.major x.mod y)) /\ Below w.heap.size w w' := by
 obtain ⟨wb, hwb⟩ : ∃ wb, wb = w.alloc (.cells #[.string y.pkg, .int .i64 y.major, .string y.mod, .slice At y.types.length ct, .slice Av y.vals.length cv] 32) := ⟨_, rfl⟩
 have B0 : Below w.heap.size w wb := by rw [hwb]; exact below_new (Below.refl _ _) _
 have X0 : wb.heap[w.heap.size]? = some (.cells #[.string y.pkg, .int .i64 y.major, .string y.mod, .slice At y.types.length ct, .slice Av y.vals.length cv] 32 (0, 0)) := by rw [hwb]; exact heap_alloc_new w _
 have X1 := (B0.block _ (Array.getElem?_eq_some_iff.1 hx).1).trans hx
 obtain ⟨y0, y1, y2⟩ := cq3 X0
 obtain ⟨x0, x1, x2⟩ := cq3 X1
 simp at y0 y1 y2 x0 x1 x2
 have HB0 := hZ B0
 have HWB := hZ hwb
 have hq := str_eq y.pkg x.pkg
 have hr := str_eq y.mod x.mod
 obtain ⟨b2, hb2⟩ : ∃ b, (y.major == x.major) = b := ⟨_, rfl⟩
 obtain ⟨b1, hb1⟩ : ∃ b, b = decide (y.pkg = x.pkg) := ⟨_, rfl⟩
 obtain ⟨b3, hb3⟩ : ∃ b, b = decide (y.mod = x.mod) := ⟨_, rfl⟩
 rw [<- hb1] at hq
 rw [<- hb3] at hr
 obtain ⟨V, hV⟩ : ∃ V, V = isIf x.pkg x.major x.mod y := ⟨_, rfl⟩
 have HV : Hid (V = (b1 && (b2 && b3))) := hZ (by rw [hV, hb1, hb3, <- hb2]; rfl)
 rw [<- hV]
 clear hx hwb B0 X0 X1 hb1 hb3 hV
 cases b1 with
 | false =>
  have RV : V = false := HV.out;subst RV;go_enter Tryz.func172, Tryz.ntmps172
  go_upto_region 1 with fail
  rw [<- HWB.out];go_wp2_with fail
  go_ret;exact ⟨rfl, HB0.out⟩
 | true =>
  cases b2 with
  | false =>
   have RV : V = false := HV.out;subst RV;go_enter Tryz.func172, Tryz.ntmps172
   go_upto_region 1 with fail
   rw [<- HWB.out];go_wp2_with fail
   go_ret;exact ⟨rfl, HB0.out⟩
  | true =>
   have RV : V = b3 := HV.out;subst RV;go_enter Tryz.func172, Tryz.ntmps172
   go_upto_region 1 with fail
   rw [<- HWB.out];go_wp2_with fail
   go_ret;exact ⟨by first | rfl | exact ret_bool rfl, HB0.out⟩
theorem pIf_index (A : Option Addr) (c : Nat) (l : List If) (x : Im) (xb : Nat) (w : World) (h : RowIn ifR w A l) (hl : l.length <= 9223372036854775807) (hx : w.heap[xb]? = some (.cells #[.string x.pkg, .int .i64 x.major, .string x.mod, .string x.asn] 84 (0, 0))) :
  Calls Tryz.prog 173 #[.slice A l.length c, .func (.func 172) #[] #[.pointer (some ⟨xb, 0, none⟩)]] w fun e w' => e = .returned (.int .i64 (optN (l.findIdx? (isIf x.pkg x.major x.mod)))) /\ Below w.heap.size w w' := by
 have HR := hZ h
 have HX0 := hZ hx
 obtain ⟨n, hn⟩ : ∃ n, n = l.length := ⟨_, rfl⟩
 have HN := hZ hn
 obtain ⟨V, hV⟩ : ∃ V, V = optN (l.findIdx? (isIf x.pkg x.major x.mod)) := ⟨_, rfl⟩
 have HV := hZ hV
 rw [<- hn] at hl ⊢
 rw [<- hV]
 clear h hn hx hV
 go_enter Tryz.func173, Tryz.ntmps173
 go_wp2_with fail
 go_loopw [8] (fun s8 wr => ∃ k : Nat, k <= n /\ s8 = .int .i64 k /\ Hid (∀ z ∈ l.take k, (isIf x.pkg x.major x.mod) z = false) /\ Hid (Below w.heap.size w wr)) (fun s8 _ => n - (intOf s8).toNat)
 case atStart => exact ⟨0, by omega, rfl, hZ (by simp), hZ (Below.refl _ _)⟩
 case round =>
  obtain ⟨k, hk, rfl, HNO, HB⟩ := hrel;obtain ⟨wo, rfl⟩ : ∃ wo : World, wo = wr := ⟨_, rfl⟩;by_cases hlt : k < n
  ·obtain ⟨y, hx⟩ : ∃ y, l[k]? = some y := ⟨_, List.getElem?_eq_getElem (by rw [<- HN.out]; exact hlt)⟩
   obtain ⟨g, o, At, ct, Av, cv, rfl, hg, a0, a1, a2, a3, a4, -⟩ := (HR.out.below HB.out).ifc hx;have IM := hZ (pIf_one y At ct Av cv x xb wo ((HB.out.block _ (Array.getElem?_eq_some_iff.1 HX0.out).1).trans HX0.out));have HY := hZ hx;have hk0 : (0 : Int) <= k := by omega
   have hk1 : (k : Int) < n := by omega
   obtain ⟨q, hq⟩ : ∃ q, (isIf x.pkg x.major x.mod) y = q := ⟨_, rfl⟩;rw [hq] at IM;have HQ := hZ hq;clear hq hx hg;cases q with
   | true =>
    have RV : V = (k : Int) := by rw [HV.out, idx_yes HY.out HNO.out HQ.out]; rfl
    subst RV;go_wp2_with fail
    refine IM.out.mono ?_; rintro e w2 ⟨rfl, hb2⟩
    have HB2 := hZ (below_over HB.out hb2);clear a0 a1 a2 a3 a4 hb2;go_wp2_with fail
    go_ret;exact ⟨rfl, HB2.out⟩
   | false =>
    have NX : Hid (∀ z ∈ l.take (k + 1), (isIf x.pkg x.major x.mod) z = false) := hZ (fun z hy => by
     rw [List.take_add_one, HY.out] at hy;rcases List.mem_append.1 hy with h | h
     ·exact HNO.out z h
     ·simp at h; rw [h]; exact HQ.out)
    go_wp2_with fail
    refine IM.out.mono ?_; rintro e w2 ⟨rfl, hb2⟩
    have HB2 := hZ (below_over HB.out hb2);clear a0 a1 a2 a3 a4 hb2;go_wp2_with fail
    go_roundw
    case rel => exact ⟨k + 1, by omega, by go_num, NX, HB2⟩
    case measure => simp [intOf]; omega
  ·have RV : V = -1 := by rw [HV.out, idx_no (fun z hz => HNO.out z (by rw [List.take_of_length_le (by rw [<- HN.out]; omega)]; exact hz))]; rfl
   subst RV;go_wp2_with fail
   go_ret;exact ⟨rfl, HB.out⟩
theorem pNm_one (y : Nm) (Bn : Option Addr) (cB : Nat) (Bs : Option Addr) (dB : Nat) (s : ByteArray) (xb : Nat) (w : World) (hx : w.heap[xb]? = some (.cells #[.string s] 9 (0, 0))) :
  Calls Tryz.prog 175 #[.agg #[.string y.name, .int .i64 y.typ.kind, .string y.typ.pkg, .int .i64 y.typ.major, .string y.typ.mod, .string y.typ.name, .slice Bn y.typ.names.length cB, .slice Bs y.typ.subs.length dB], .pointer (some ⟨xb, 0, none⟩)] w fun e w' => e = .returned (.bool (isNm s y)) /\ Below w.heap.size w w' := by
 obtain ⟨wb, hwb⟩ : ∃ wb, wb = w.alloc (.cells #[.string y.name, .int .i64 y.typ.kind, .string y.typ.pkg, .int .i64 y.typ.major, .string y.typ.mod, .string y.typ.name, .slice Bn y.typ.names.length cB, .slice Bs y.typ.subs.length dB] 49) := ⟨_, rfl⟩
 have B0 : Below w.heap.size w wb := by rw [hwb]; exact below_new (Below.refl _ _) _
 have X0 : wb.heap[w.heap.size]? = some (.cells #[.string y.name, .int .i64 y.typ.kind, .string y.typ.pkg, .int .i64 y.typ.major, .string y.typ.mod, .string y.typ.name, .slice Bn y.typ.names.length cB, .slice Bs y.typ.subs.length dB] 49 (0, 0)) := by rw [hwb]; exact heap_alloc_new w _
 have X1 := (B0.block _ (Array.getElem?_eq_some_iff.1 hx).1).trans hx
 have y0 := cZ X0 0
 have x0 := cZ X1 0
 simp at y0 x0
 have HB0 := hZ B0
 have HWB := hZ hwb
 have hq := str_eq y.name s
 obtain ⟨b1, hb1⟩ : ∃ b, b = decide (y.name = s) := ⟨_, rfl⟩
 rw [<- hb1] at hq
 have e1 : isNm s y = b1 := hb1.symm
 rw [e1]
 clear hx hwb B0 X0 X1 hb1 e1
 go_enter Tryz.func175, Tryz.ntmps175
 go_upto_region 1 with fail
 rw [<- HWB.out]
 go_wp2_with fail
 go_ret
 exact ⟨by first | rfl | exact ret_bool hq, HB0.out⟩
theorem pNm_index (A : Option Addr) (c : Nat) (l : List Nm) (s : ByteArray) (xb : Nat) (w : World) (h : RowIn nmR w A l) (hl : l.length <= 9223372036854775807) (hx : w.heap[xb]? = some (.cells #[.string s] 9 (0, 0))) :
  Calls Tryz.prog 174 #[.slice A l.length c, .func (.func 175) #[] #[.pointer (some ⟨xb, 0, none⟩)]] w fun e w' => e = .returned (.int .i64 (optN (l.findIdx? (isNm s)))) /\ Below w.heap.size w w' := by
 have HR := hZ h
 have HX0 := hZ hx
 obtain ⟨n, hn⟩ : ∃ n, n = l.length := ⟨_, rfl⟩
 have HN := hZ hn
 obtain ⟨V, hV⟩ : ∃ V, V = optN (l.findIdx? (isNm s)) := ⟨_, rfl⟩
 have HV := hZ hV
 rw [<- hn] at hl ⊢
 rw [<- hV]
 clear h hn hx hV
 go_enter Tryz.func174, Tryz.ntmps174
 go_wp2_with fail
 go_loopw [8] (fun s8 wr => ∃ k : Nat, k <= n /\ s8 = .int .i64 k /\ Hid (∀ z ∈ l.take k, (isNm s) z = false) /\ Hid (Below w.heap.size w wr)) (fun s8 _ => n - (intOf s8).toNat)
 case atStart => exact ⟨0, by omega, rfl, hZ (by simp), hZ (Below.refl _ _)⟩
 case round =>
  obtain ⟨k, hk, rfl, HNO, HB⟩ := hrel;obtain ⟨wo, rfl⟩ : ∃ wo : World, wo = wr := ⟨_, rfl⟩;by_cases hlt : k < n
  ·obtain ⟨y, hx⟩ : ∃ y, l[k]? = some y := ⟨_, List.getElem?_eq_getElem (by rw [<- HN.out]; exact hlt)⟩
   obtain ⟨g, o, Bn, cB, Bs, dB, rfl, hg, a0, a1, a2, a3, a4, a5, a6, a7, -⟩ := (HR.out.below HB.out).nm hx;have IM := hZ (pNm_one y Bn cB Bs dB s xb wo ((HB.out.block _ (Array.getElem?_eq_some_iff.1 HX0.out).1).trans HX0.out));have HY := hZ hx;have hk0 : (0 : Int) <= k := by omega
   have hk1 : (k : Int) < n := by omega
   obtain ⟨q, hq⟩ : ∃ q, (isNm s) y = q := ⟨_, rfl⟩;rw [hq] at IM;have HQ := hZ hq;clear hq hx hg;cases q with
   | true =>
    have RV : V = (k : Int) := by rw [HV.out, idx_yes HY.out HNO.out HQ.out]; rfl
    subst RV;go_wp2_with fail
    refine IM.out.mono ?_; rintro e w2 ⟨rfl, hb2⟩
    have HB2 := hZ (below_over HB.out hb2);clear a0 a1 a2 a3 a4 a5 a6 a7 hb2;go_wp2_with fail
    go_ret;exact ⟨rfl, HB2.out⟩
   | false =>
    have NX : Hid (∀ z ∈ l.take (k + 1), (isNm s) z = false) := hZ (fun z hy => by
     rw [List.take_add_one, HY.out] at hy;rcases List.mem_append.1 hy with h | h
     ·exact HNO.out z h
     ·simp at h; rw [h]; exact HQ.out)
    go_wp2_with fail
    refine IM.out.mono ?_; rintro e w2 ⟨rfl, hb2⟩
    have HB2 := hZ (below_over HB.out hb2);clear a0 a1 a2 a3 a4 a5 a6 a7 hb2;go_wp2_with fail
    go_roundw
    case rel => exact ⟨k + 1, by omega, by go_num, NX, HB2⟩
    case measure => simp [intOf]; omega
  ·have RV : V = -1 := by rw [HV.out, idx_no (fun z hz => HNO.out z (by rw [List.take_of_length_le (by rw [<- HN.out]; omega)]; exact hz))]; rfl
   subst RV;go_wp2_with fail
   go_ret;exact ⟨rfl, HB.out⟩
theorem pDe_one (y : De) (Bn : Option Addr) (cB : Nat) (Bs : Option Addr) (dB : Nat) (s : ByteArray) (xb : Nat) (w : World) (hx : w.heap[xb]? = some (.cells #[.string s] 9 (0, 0))) :
  Calls Tryz.prog 165 #[.agg #[.int .i64 y.kind, .string y.name, .int .i64 y.typ.kind, .string y.typ.pkg, .int .i64 y.typ.major, .string y.typ.mod, .string y.typ.name, .slice Bn y.typ.names.length cB, .slice Bs y.typ.subs.length dB], .pointer (some ⟨xb, 0, none⟩)] w fun e w' => e = .returned (.bool (isDe s y)) /\ Below w.heap.size w w' := by
 obtain ⟨wb, hwb⟩ : ∃ wb, wb = w.alloc (.cells #[.int .i64 y.kind, .string y.name, .int .i64 y.typ.kind, .string y.typ.pkg, .int .i64 y.typ.major, .string y.typ.mod, .string y.typ.name, .slice Bn y.typ.names.length cB, .slice Bs y.typ.subs.length dB] 47) := ⟨_, rfl⟩
 have B0 : Below w.heap.size w wb := by rw [hwb]; exact below_new (Below.refl _ _) _
 have X0 : wb.heap[w.heap.size]? = some (.cells #[.int .i64 y.kind, .string y.name, .int .i64 y.typ.kind, .string y.typ.pkg, .int .i64 y.typ.major, .string y.typ.mod, .string y.typ.name, .slice Bn y.typ.names.length cB, .slice Bs y.typ.subs.length dB] 47 (0, 0)) := by rw [hwb]; exact heap_alloc_new w _
 have X1 := (B0.block _ (Array.getElem?_eq_some_iff.1 hx).1).trans hx
 have y1 := cZ X0 1
 have x0 := cZ X1 0
 simp at y1 x0
 have HB0 := hZ B0
 have HWB := hZ hwb
 have hq := str_eq y.name s
 obtain ⟨b1, hb1⟩ : ∃ b, b = decide (y.name = s) := ⟨_, rfl⟩
 rw [<- hb1] at hq
 have e1 : isDe s y = b1 := hb1.symm
 rw [e1]
 clear hx hwb B0 X0 X1 hb1 e1
 go_enter Tryz.func165, Tryz.ntmps165
 go_upto_region 1 with fail
 rw [<- HWB.out]
 go_wp2_with fail
 go_ret
 exact ⟨by first | rfl | exact ret_bool hq, HB0.out⟩
theorem pDe_index (A : Option Addr) (c : Nat) (l : List De) (s : ByteArray) (xb : Nat) (w : World) (h : RowIn deR w A l) (hl : l.length <= 9223372036854775807) (hx : w.heap[xb]? = some (.cells #[.string s] 9 (0, 0))) :
  Calls Tryz.prog 118 #[.slice A l.length c, .func (.func 165) #[] #[.pointer (some ⟨xb, 0, none⟩)]] w fun e w' => e = .returned (.int .i64 (optN (l.findIdx? (isDe s)))) /\ Below w.heap.size w w' := by
 have HR := hZ h
 have HX0 := hZ hx
 obtain ⟨n, hn⟩ : ∃ n, n = l.length := ⟨_, rfl⟩
 have HN := hZ hn
 obtain ⟨V, hV⟩ : ∃ V, V = optN (l.findIdx? (isDe s)) := ⟨_, rfl⟩
 have HV := hZ hV
 rw [<- hn] at hl ⊢
 rw [<- hV]
 clear h hn hx hV
 go_enter Tryz.func118, Tryz.ntmps118
 go_wp2_with fail
 go_loopw [8] (fun s8 wr => ∃ k : Nat, k <= n /\ s8 = .int .i64 k /\ Hid (∀ z ∈ l.take k, (isDe s) z = false) /\ Hid (Below w.heap.size w wr)) (fun s8 _ => n - (intOf s8).toNat)
 case atStart => exact ⟨0, by omega, rfl, hZ (by simp), hZ (Below.refl _ _)⟩
 case round =>
  obtain ⟨k, hk, rfl, HNO, HB⟩ := hrel;obtain ⟨wo, rfl⟩ : ∃ wo : World, wo = wr := ⟨_, rfl⟩;by_cases hlt : k < n
  ·obtain ⟨y, hx⟩ : ∃ y, l[k]? = some y := ⟨_, List.getElem?_eq_getElem (by rw [<- HN.out]; exact hlt)⟩
   obtain ⟨g, o, v0, v1, v2, v3, v4, v5, v6, rfl, hg, a0, a1, a2, a3, a4, a5, a6, a7, a8, us, zs⟩ := (HR.out.below HB.out).de hx;obtain ⟨Bn, cB, Bs, dB, ev, -⟩ := us.parts;simp only [List.cons.injEq, and_true] at ev;obtain ⟨rfl, rfl, rfl, rfl, rfl, rfl, rfl⟩ := ev;clear us zs;have IM := hZ (pDe_one y Bn cB Bs dB s xb wo ((HB.out.block _ (Array.getElem?_eq_some_iff.1 HX0.out).1).trans HX0.out));have HY := hZ hx;have hk0 : (0 : Int) <= k := by omega
   have hk1 : (k : Int) < n := by omega
   obtain ⟨q, hq⟩ : ∃ q, (isDe s) y = q := ⟨_, rfl⟩;rw [hq] at IM;have HQ := hZ hq;clear hq hx hg;cases q with
   | true =>
    have RV : V = (k : Int) := by rw [HV.out, idx_yes HY.out HNO.out HQ.out]; rfl
    subst RV;go_wp2_with fail
    refine IM.out.mono ?_; rintro e w2 ⟨rfl, hb2⟩
    have HB2 := hZ (below_over HB.out hb2);clear a0 a1 a2 a3 a4 a5 a6 a7 a8 hb2;go_wp2_with fail
    go_ret;exact ⟨rfl, HB2.out⟩
   | false =>
    have NX : Hid (∀ z ∈ l.take (k + 1), (isDe s) z = false) := hZ (fun z hy => by
     rw [List.take_add_one, HY.out] at hy;rcases List.mem_append.1 hy with h | h
     ·exact HNO.out z h
     ·simp at h; rw [h]; exact HQ.out)
    go_wp2_with fail
    refine IM.out.mono ?_; rintro e w2 ⟨rfl, hb2⟩
    have HB2 := hZ (below_over HB.out hb2);clear a0 a1 a2 a3 a4 a5 a6 a7 a8 hb2;go_wp2_with fail
    go_roundw
    case rel => exact ⟨k + 1, by omega, by go_num, NX, HB2⟩
    case measure => simp [intOf]; omega
  ·have RV : V = -1 := by rw [HV.out, idx_no (fun z hz => HNO.out z (by rw [List.take_of_length_le (by rw [<- HN.out]; omega)]; exact hz))]; rfl
   subst RV;go_wp2_with fail
   go_ret;exact ⟨rfl, HB.out⟩
theorem pAs_one (y : Im)  (s s2 : ByteArray) (xb : Nat) (w : World) (hx : w.heap[xb]? = some (.cells #[.string s, .string s2] 186 (0, 0))) :
  Calls Tryz.prog 166 #[.agg #[.string y.pkg, .int .i64 y.major, .string y.mod, .string y.asn], .pointer (some ⟨xb, 0, none⟩)] w fun e w' => e = .returned (.bool (isAs s y)) /\ Below w.heap.size w w' := by
 obtain ⟨wb, hwb⟩ : ∃ wb, wb = w.alloc (.cells #[.string y.pkg, .int .i64 y.major, .string y.mod, .string y.asn] 84) := ⟨_, rfl⟩
 have B0 : Below w.heap.size w wb := by rw [hwb]; exact below_new (Below.refl _ _) _
 have X0 : wb.heap[w.heap.size]? = some (.cells #[.string y.pkg, .int .i64 y.major, .string y.mod, .string y.asn] 84 (0, 0)) := by rw [hwb]; exact heap_alloc_new w _
 have X1 := (B0.block _ (Array.getElem?_eq_some_iff.1 hx).1).trans hx
 have y3 := cZ X0 3
 have x0 := cZ X1 0
 simp at y3 x0
 have HB0 := hZ B0
 have HWB := hZ hwb
 have hq := str_eq y.asn s
 obtain ⟨b1, hb1⟩ : ∃ b, b = decide (y.asn = s) := ⟨_, rfl⟩
 rw [<- hb1] at hq
 have e1 : isAs s y = b1 := hb1.symm
 rw [e1]
 clear hx hwb B0 X0 X1 hb1 e1
 go_enter Tryz.func166, Tryz.ntmps166
 go_upto_region 1 with fail
 rw [<- HWB.out]
 go_wp2_with fail
 go_ret
 exact ⟨by first | rfl | exact ret_bool hq, HB0.out⟩
theorem pAs_index (A : Option Addr) (c : Nat) (l : List Im) (s s2 : ByteArray) (xb : Nat) (w : World) (h : RowIn imR w A l) (hl : l.length <= 9223372036854775807) (hx : w.heap[xb]? = some (.cells #[.string s, .string s2] 186 (0, 0))) :
  Calls Tryz.prog 123 #[.slice A l.length c, .func (.func 166) #[] #[.pointer (some ⟨xb, 0, none⟩)]] w fun e w' => e = .returned (.int .i64 (optN (l.findIdx? (isAs s)))) /\ Below w.heap.size w w' := by
 have HR := hZ h
 have HX0 := hZ hx
 obtain ⟨n, hn⟩ : ∃ n, n = l.length := ⟨_, rfl⟩
 have HN := hZ hn
 obtain ⟨V, hV⟩ : ∃ V, V = optN (l.findIdx? (isAs s)) := ⟨_, rfl⟩
 have HV := hZ hV
 rw [<- hn] at hl ⊢
 rw [<- hV]
 clear h hn hx hV
 go_enter Tryz.func123, Tryz.ntmps123
 go_wp2_with fail
 go_loopw [8] (fun s8 wr => ∃ k : Nat, k <= n /\ s8 = .int .i64 k /\ Hid (∀ z ∈ l.take k, (isAs s) z = false) /\ Hid (Below w.heap.size w wr)) (fun s8 _ => n - (intOf s8).toNat)
 case atStart => exact ⟨0, by omega, rfl, hZ (by simp), hZ (Below.refl _ _)⟩
 case round =>
  obtain ⟨k, hk, rfl, HNO, HB⟩ := hrel;obtain ⟨wo, rfl⟩ : ∃ wo : World, wo = wr := ⟨_, rfl⟩;by_cases hlt : k < n
  ·obtain ⟨y, hx⟩ : ∃ y, l[k]? = some y := ⟨_, List.getElem?_eq_getElem (by rw [<- HN.out]; exact hlt)⟩
   obtain ⟨g, o, rfl, hg, a0, a1, a2, a3, -⟩ := (HR.out.below HB.out).im hx;have IM := hZ (pAs_one y  s s2 xb wo ((HB.out.block _ (Array.getElem?_eq_some_iff.1 HX0.out).1).trans HX0.out));have HY := hZ hx;have hk0 : (0 : Int) <= k := by omega
   have hk1 : (k : Int) < n := by omega
   obtain ⟨q, hq⟩ : ∃ q, (isAs s) y = q := ⟨_, rfl⟩;rw [hq] at IM;have HQ := hZ hq;clear hq hx hg;cases q with
   | true =>
    have RV : V = (k : Int) := by rw [HV.out, idx_yes HY.out HNO.out HQ.out]; rfl
    subst RV;go_wp2_with fail
    refine IM.out.mono ?_; rintro e w2 ⟨rfl, hb2⟩
    have HB2 := hZ (below_over HB.out hb2);clear a0 a1 a2 a3 hb2;go_wp2_with fail
    go_ret;exact ⟨rfl, HB2.out⟩
   | false =>
    have NX : Hid (∀ z ∈ l.take (k + 1), (isAs s) z = false) := hZ (fun z hy => by
     rw [List.take_add_one, HY.out] at hy;rcases List.mem_append.1 hy with h | h
     ·exact HNO.out z h
     ·simp at h; rw [h]; exact HQ.out)
    go_wp2_with fail
    refine IM.out.mono ?_; rintro e w2 ⟨rfl, hb2⟩
    have HB2 := hZ (below_over HB.out hb2);clear a0 a1 a2 a3 hb2;go_wp2_with fail
    go_roundw
    case rel => exact ⟨k + 1, by omega, by go_num, NX, HB2⟩
    case measure => simp [intOf]; omega
  ·have RV : V = -1 := by rw [HV.out, idx_no (fun z hz => HNO.out z (by rw [List.take_of_length_le (by rw [<- HN.out]; omega)]; exact hz))]; rfl
   subst RV;go_wp2_with fail
   go_ret;exact ⟨rfl, HB.out⟩
end Go.Proofs.YtcdmgcgjonndpaaGreatDoor
namespace Go.Proofs.YtcdmgcgjonndpaaGreatDoor
open Go.RowKit
open M
theorem plain_any (N : Nat) : ∀ (t : Ty), many t <= N -> ∀ (v : Value) (w : World), TyV w v t ->
    Calls Tryz.prog 140 #[v] w fun e w' => e = .returned (.bool (plainT t)) /\ Below w.heap.size w w' := by
  induction N with
  | zero => intro t h; have := many_pos t; omega
  | succ N ih =>
    intro t hN v w hv;obtain ⟨l, rfl, hT⟩ := hv;obtain ⟨An, cn, As, cs, rfl, -, -, -, hzn, hz, -, hS⟩ := hT.parts;have HS := hZ hS;clear hT hS;generalize hn : t.subs.length = n at hz
    have HN := hZ hn;clear hn;have HE := hZ (plain_eq t);rcases hid_or (t.kind == 8) with hk8 | hk8
    · have hk8' := hk8.out
      go_enter Tryz.func140, Tryz.ntmps140
      go_wp2_with fail
      go_loopw [3] (fun i wr => ∃ k : Nat, k <= n /\ i = .int .i64 k /\ Hid (∀ j s, j < k -> t.subs[j]? = some s -> plainT s = true) /\ Below (boxed w #[.int .i64 t.kind, .string t.pkg, .int .i64 t.major, .string t.mod, .string t.name, .slice An t.names.length cn, .slice As n cs]).heap.size (boxed w #[.int .i64 t.kind, .string t.pkg, .int .i64 t.major, .string t.mod, .string t.name, .slice An t.names.length cn, .slice As n cs]) wr) (fun i _ => n - (intOf i).toNat)
      case atStart => exact ⟨0, by omega, rfl, hZ (fun j s h => by omega), Below.refl _ _⟩
      case round =>
        obtain ⟨k, hk, rfl, HP, hb⟩ := hrel;obtain ⟨wo, rfl⟩ : ∃ wo : World, wo = wr := ⟨_, rfl⟩;have b6 := box_cell hb 6;simp at b6;have HB := hZ (box_below hb);by_cases hlt : k < n
        · obtain ⟨s, hs⟩ : ∃ s, t.subs[k]? = some s := ⟨_, List.getElem?_eq_getElem (by rw [HN.out]; exact hlt)⟩
          obtain ⟨g, o, v0, v1, v2, v3, v4, v5, v6, rfl, -, h0, h1, h2, h3, h4, h5, h6, hs7⟩ := HS.out.below HB.out k s hs;have hsm := sub_many hs;have IH := hZ (ih s (by omega) (.agg #[v0, v1, v2, v3, v4, v5, v6]) wo ⟨_, rfl, hs7⟩);have HSS := hZ hs;clear hs7 hs hsm;rcases hid_or (plainT s) with hp | hp
          · have R : Hid (plainT t = false) := hZ (by
              rw [HE.out, Bool.and_eq_false_iff]; right
              rw [Bool.eq_false_iff, ne_eq, plainL_mem];intro h;have := h s (List.mem_of_getElem? HSS.out)
              rw [hp.out] at this; cases this)
            go_wp2_with fail
            refine IH.out.mono ?_; rintro e w2 ⟨rfl, hb2⟩; rw [hp.out]
            have hb3 := below_over hb hb2;clear b6 h0 h1 h2 h3 h4 h5 h6 hb hb2;go_wp2_with fail
            go_ret;exact ⟨ret_bool R.out, box_below hb3⟩
          · go_wp2_with fail
            refine IH.out.mono ?_; rintro e w2 ⟨rfl, hb2⟩; rw [hp.out]
            have hb3 := below_over hb hb2;clear b6 h0 h1 h2 h3 h4 h5 h6 hb hb2;go_wp2_with fail
            go_roundw
            case rel => exact ⟨k + 1, by omega, by go_num, hZ (fun j q hj hq => by
              rcases Nat.lt_or_ge j k with a | a
              · exact HP.out j q a hq
              · rw [show j = k by omega, HSS.out] at hq
                obtain rfl := Option.some.inj hq;exact hp.out), hb3⟩
            case measure => simp [intOf]; omega
        · have R : Hid (plainT t = true) := hZ (by
            rw [HE.out, hk8.out, (plainL_mem t.subs).2 (fun s hs => ?_)]
            · rfl
            · obtain ⟨j, hj⟩ := List.getElem?_of_mem hs
              have hjl := (List.getElem?_eq_some_iff.1 hj).1;exact HP.out j s (by rw [HN.out] at hjl; omega) hj)
          go_wp2_with fail
          go_ret;exact ⟨ret_bool R.out, HB.out⟩
    · have hk8' := hk8.out
      have R : Hid (plainT t = false) := hZ (by rw [HE.out, hk8.out]; rfl);rw [R.out];go_enter Tryz.func140, Tryz.ntmps140
      go_wp2_with fail
      go_ret;exact ⟨rfl, below_new (Below.refl _ _) _⟩
end Go.Proofs.YtcdmgcgjonndpaaGreatDoor
namespace Go.Proofs.YtcdmgcgjonndpaaGreatDoor
open Go Go.RowKit
open Go.Sort
section
variable {P : Program} {w : World}
theorem run_append_rows (base base2 : Nat) (t ty e : TypeId) (i : TypeInfo) (z : Value) (size bytes : Nat) (ht : P.underlying t = some (.slice e)) (hi : P.info? e = some i) (hz : i.zero = some z)
    (hsize : i.size = size) (hby : i.bytes = bytes) (hzs : z.cells.size = size) (hsz : 0 < size)
    (v : Value) (n : Nat) (xs : List Value) (hown : w.ownsRow base e size v n xs) (vx : Value) (m : Nat) (ys : List Value) (hx : w.ownsRow base2 e size vx m ys) (h1 : ∀ u ∈ ys, u.oneCell' = true)
    (h63 : n + m <= maxLen) (hbytes : (n + m) * bytes <= 140737488355328) (hbase : base <= w.heap.size) :
    ∃ v' w', (Builtin.append_ #[t, t] ty #[v, vx]).run P w = .ok v' w' /\ w'.ownsRow base e size v' (n + m) (xs ++ ys) /\ w.grownBy w' v.ownBlock := by
  rcases hx.2 with ⟨rfl, rfl⟩ | ⟨g, cap, cur, rfl, hB, hg, hnc, hcm, hcs, htake⟩
  · have hy : ys = [] := List.length_eq_zero_iff.1 (by have := hx.1; simpa using this)
    subst hy;exact ⟨v, w, run_append_empty base t ty e i size ht hi v n 0 xs hown, by rw [List.append_nil]; exact hown, ⟨rfl, rfl, rfl, Nat.le_refl _, fun _ _ _ => rfl⟩⟩
  · obtain ⟨v', w', hr, h2, h3, -, -⟩ := run_append_own_at (P := P) w base t ty e i z size bytes ht hi hz hsize hby hzs hsz v n xs hown ⟨g, 0, none⟩ m cap ys hx.1 (fun j u hj => by
      rw [WideShapes.add_plain, Nat.zero_add, cZ hg, <- Array.getElem?_toList];have e : (cur.toList.take (m * size))[j]? = some u := by rw [htake, hj]
      rw [List.getElem?_take] at e;split at e
      · exact e
      · cases e) h1 h63 hbytes hbase
    exact ⟨v', w', hr, h2, h3⟩
theorem wp_append_rows {o : Oper} {a : Act} {K : Act -> World -> Prop} {Q : Exit -> Act -> World -> Prop} (s x : Operand) (t : TypeId)
    (ho : o.op = .call { callee := .builtin .append, args := #[s, x], argTypes := #[t, t] })
    (base base2 : Nat) (e : TypeId) (i : TypeInfo) (z : Value) (size bytes : Nat) (ht : P.underlying t = some (.slice e)) (hi : P.info? e = some i) (hz : i.zero = some z)
    (hsize : i.size = size) (hby : i.bytes = bytes) (hzs : z.cells.size = size) (hsz : 0 < size)
    (v : Value) (n : Nat) (xs : List Value) (hs : a.eval s = v) (hown : w.ownsRow base e size v n xs) (vx : Value) (m : Nat) (ys : List Value) (hxe : a.eval x = vx) (hx : w.ownsRow base2 e size vx m ys) (h1 : ∀ u ∈ ys, u.oneCell' = true)
    (h63 : n + m <= maxLen) (hbytes : (n + m) * bytes <= 140737488355328) (hbase : base <= w.heap.size)
    (h : ∀ v' w', w'.ownsRow base e size v' (n + m) (xs ++ ys) -> w.grownBy w' v.ownBlock -> K (a.put o.dst v') w') : o.wp P a w K Q := by
  obtain ⟨v', w', hr, h2, h3⟩ := run_append_rows (P := P) base base2 t o.type e i z size bytes ht hi hz hsize hby hzs hsz v n xs hown vx m ys hx h1 h63 hbytes hbase;unfold Oper.wp execOp
  simp only [ho, resolve, invoke, builtin, Sem.run_bind, Sem.run_pure, Result.andThen_ok, List.map_toArray, List.map_cons, List.map_nil, hs, hxe, hr];exact h v' w' h2 h3
theorem wpList_append_rows {ops : Array Oper} {rest : List Oper} {o : Oper} {a : Act} {Q : Exit -> Act -> World -> Prop} (hgd : o.guard = none) (s x : Operand) (t : TypeId)
    (ho : o.op = .call { callee := .builtin .append, args := #[s, x], argTypes := #[t, t] })
    (base base2 : Nat) (e : TypeId) (i : TypeInfo) (z : Value) (size bytes : Nat) (ht : P.underlying t = some (.slice e)) (hi : P.info? e = some i) (hz : i.zero = some z)
    (hsize : i.size = size) (hby : i.bytes = bytes) (hzs : z.cells.size = size) (hsz : 0 < size)
    (v : Value) (n : Nat) (xs : List Value) (hs : a.eval s = v) (hown : w.ownsRow base e size v n xs) (vx : Value) (m : Nat) (ys : List Value) (hxe : a.eval x = vx) (hx : w.ownsRow base2 e size vx m ys) (h1 : ∀ u ∈ ys, u.oneCell' = true)
    (h63 : n + m <= maxLen) (hbytes : (n + m) * bytes <= 140737488355328) (hbase : base <= w.heap.size)
    (h : ∀ v' w', w'.ownsRow base e size v' (n + m) (xs ++ ys) -> w.grownBy w' v.ownBlock -> wpList P ops Q rest (a.put o.dst v') w') : wpList P ops Q (o :: rest) a w :=
  wpList_plain hgd fun _ hK => wp_append_rows s x t ho base base2 e i z size bytes ht hi hz hsize hby hzs hsz v n xs hs hown vx m ys hxe hx h1 h63 hbytes hbase fun v' w' h2 h3 => hK _ _ (h v' w' h2 h3)
end
theorem below_grown {B : Nat} {w w1 w2 : World} {v : Value} {e : TypeId} {z n : Nat} {xs : List Value} (hb : Below B w w1) (hB : B <= w1.heap.size) (hown : w1.ownsRow B e z v n xs) (hg : w1.grownBy w2 v.ownBlock) : Below B w w2 :=
  hb.trans ⟨hg.os, hg.tape, hg.output, hg.size, fun b h => hg.block b (Nat.lt_of_lt_of_le h hB) (fun e => by have := (hown.lt b e.symm).1; omega)⟩
end Go.Proofs.YtcdmgcgjonndpaaGreatDoor
