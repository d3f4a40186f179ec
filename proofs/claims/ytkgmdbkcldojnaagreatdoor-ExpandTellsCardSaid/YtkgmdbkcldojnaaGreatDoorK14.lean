/-
  Several texts in one:  ·  ·  ·  · 
-/
import Derived.Test.YtkgmdbkcldojnaaGreatDoorK13
import Derived.Test.YtkgmdbkcldojnaaGreatDoorK10
import Derived.Test.YtkgmdbkcldojnaaGreatDoorK00
import Derived.Test.YtkgmdbkcldojnaaGreatDoorK04
/-  -/
namespace Go.Proofs.YtkgmdbkcldojnaaGreatDoor
open Go Go.ChangeShapes Go.WideShapes Go.ChangeAt Go.RowKit Go.Joins Go.Deep
open M
def nmE (w : World) (l : List Value) (x : Nm) : Prop := x.name.size ≤ 9223372036854775807 ∧ ∃ l7 : List Value, l = .string x.name :: l7 ∧ TyAt w l7 x.typ
def nmR : Reads Nm := ⟨8, 48, nmE, fun _ _ _ _ _ _ ⟨hs, l7, e, h⟩ hz hb => ⟨hs, l7, e, h.move hz hb⟩, fun _ _ _ _ ⟨hs, l7, e, h⟩ hb => ⟨hs, l7, e, h.keep hb⟩, fun _ _ _ _ ⟨hs, l7, e, h⟩ => ⟨hs, l7, e, h.free⟩, fun _ l x ⟨_, l7, e, h⟩ => by rw [e]; simp [h.len]⟩
def ifE (w : World) (l : List Value) (x : If) : Prop :=
  ∃ (At : Option Addr) (ct : Nat) (Av : Option Addr) (cv : Nat), l = [.string x.pkg, .int .i64 x.major, .string x.mod, .slice At x.types.length ct, .slice Av x.vals.length cv] ∧ x.pkg.size ≤ 9223372036854775807 ∧ x.mod.size ≤ 9223372036854775807 ∧ x.types.length ≤ 9223372036854775807 ∧ x.vals.length ≤ 9223372036854775807 ∧ RowIn nmR w At x.types ∧ RowIn nmR w Av x.vals
def ifR : Reads If := ⟨5, 37, ifE, fun _ _ _ _ _ _ ⟨At, ct, Av, cv, e, h1, h2, h3, h4, h5, h6⟩ hz hb => ⟨At, ct, Av, cv, e, h1, h2, h3, h4, h5.move hz hb, h6.move hz hb⟩, fun _ _ _ _ ⟨At, ct, Av, cv, e, h1, h2, h3, h4, h5, h6⟩ hb => ⟨At, ct, Av, cv, e, h1, h2, h3, h4, h5.below hb, h6.below hb⟩, fun _ _ _ _ ⟨At, ct, Av, cv, e, h1, h2, h3, h4, h5, h6⟩ => ⟨At, ct, Av, cv, e, h1, h2, h3, h4, h5.free, h6.free⟩, fun _ l x ⟨At, ct, Av, cv, e, _⟩ => by rw [e]; rfl⟩
theorem RowIn.nm {w : World} {A : Option Addr} {xs : List Nm} (h : RowIn nmR w A xs) {i : Nat} {x : Nm} (hx : xs[i]? = some x) : ∃ (g o : Nat) (Bn : Option Addr) (cB : Nat) (Bs : Option Addr) (dB : Nat), A = some ⟨g, o, none⟩ ∧ g < w.heap.size ∧
    w.cell? ⟨g, o + i * 8, none⟩ = some (.string x.name) ∧ w.cell? ⟨g, o + i * 8 + 1, none⟩ = some (.int .i64 x.typ.kind) ∧ w.cell? ⟨g, o + i * 8 + 1 + 1, none⟩ = some (.string x.typ.pkg) ∧ w.cell? ⟨g, o + i * 8 + 1 + 2, none⟩ = some (.int .i64 x.typ.major) ∧ w.cell? ⟨g, o + i * 8 + 1 + 3, none⟩ = some (.string x.typ.mod) ∧
    w.cell? ⟨g, o + i * 8 + 1 + 4, none⟩ = some (.string x.typ.name) ∧ w.cell? ⟨g, o + i * 8 + 1 + 5, none⟩ = some (.slice Bn x.typ.names.length cB) ∧ w.cell? ⟨g, o + i * 8 + 1 + 6, none⟩ = some (.slice Bs x.typ.subs.length dB) ∧ TyAt w [.int .i64 x.typ.kind, .string x.typ.pkg, .int .i64 x.typ.major, .string x.typ.mod, .string x.typ.name, .slice Bn x.typ.names.length cB, .slice Bs x.typ.subs.length dB] x.typ ∧ x.name.size ≤ 9223372036854775807 := by
  obtain ⟨g, o, l, hA, hg, hc, hs, l7, rfl, hT⟩ := h i x hx
  obtain ⟨Bn, cB, Bs, dB, rfl, -⟩ := hT.parts
  exact ⟨g, o, Bn, cB, Bs, dB, hA, hg, hc 0 _ rfl, hc 1 _ rfl, hc 2 _ rfl, hc 3 _ rfl, hc 4 _ rfl, hc 5 _ rfl, hc 6 _ rfl, hc 7 _ rfl, hT, hs⟩
theorem RowIn.ifc {w : World} {A : Option Addr} {xs : List If} (h : RowIn ifR w A xs) {i : Nat} {x : If} (hx : xs[i]? = some x) : ∃ (g o : Nat) (At : Option Addr) (ct : Nat) (Av : Option Addr) (cv : Nat), A = some ⟨g, o, none⟩ ∧ g < w.heap.size ∧
    w.cell? ⟨g, o + i * 5, none⟩ = some (.string x.pkg) ∧ w.cell? ⟨g, o + i * 5 + 1, none⟩ = some (.int .i64 x.major) ∧ w.cell? ⟨g, o + i * 5 + 2, none⟩ = some (.string x.mod) ∧ w.cell? ⟨g, o + i * 5 + 3, none⟩ = some (.slice At x.types.length ct) ∧ w.cell? ⟨g, o + i * 5 + 4, none⟩ = some (.slice Av x.vals.length cv) ∧
    x.pkg.size ≤ 9223372036854775807 ∧ x.mod.size ≤ 9223372036854775807 ∧ x.types.length ≤ 9223372036854775807 ∧ x.vals.length ≤ 9223372036854775807 ∧ RowIn nmR w At x.types ∧ RowIn nmR w Av x.vals := by
  obtain ⟨g, o, l, hA, hg, hc, At, ct, Av, cv, rfl, h1, h2, h3, h4, h5, h6⟩ := h i x hx
  exact ⟨g, o, At, ct, Av, cv, hA, hg, hc 0 _ rfl, hc 1 _ rfl, hc 2 _ rfl, hc 3 _ rfl, hc 4 _ rfl, h1, h2, h3, h4, h5, h6⟩
section
variable {H : Type} {enc : TypeId × Value → H} {w : World} {base : Nat} {sp : Nat → Bool} {held : Bool}
theorem nmCells : Tryz.prog.cellsOf 48 = 8 := by kernel_rfl
theorem ifCells : Tryz.prog.cellsOf 37 = 5 := by kernel_rfl
theorem nmCellsL : Tryz.prog.cellsOf 35 = 1 := by kernel_rfl
theorem list8 {α : Type} : ∀ l : List α, l.length = 8 → ∃ a r, l = a :: r ∧ r.length = 7
  | a :: r, h => ⟨a, r, rfl, by simpa using h⟩
  | [], h => by simp at h
theorem list5 {α : Type} : ∀ l : List α, l.length = 5 → ∃ a b c d e, l = [a, b, c, d, e]
  | [a, b, c, d, e], _ => ⟨a, b, c, d, e, rfl⟩
  | [], h => by simp at h
  | [_], h => by simp at h
  | [_, _], h => by simp at h
  | [_, _, _], h => by simp at h
  | [_, _, _, _], h => by simp at h
  | _ :: _ :: _ :: _ :: _ :: _ :: _, h => by simp at h
theorem open_nm (n : Nat) (cs : List Value) (x : DataW H × List MemPlace) (h : DataW.trod enc Tryz.prog w base sp held n 48 cs = some x) : ∃ a, nmE w cs a := by
  obtain ⟨xs, n, hfuel, -, hlen, hxl, hf⟩ := DataW.trod_struct Tryz.underlying48 h
  rw [nmCells] at hlen
  obtain ⟨c0, r, rfl, hr⟩ := list8 cs hlen
  have q : ∀ j, j < 2 → ∃ y, xs[j]? = some y := fun j hj => ⟨_, List.getElem?_eq_getElem (by rw [hxl]; exact hj)⟩
  obtain ⟨y0, e0⟩ := q 0 (by omega); obtain ⟨y1, e1⟩ := q 1 (by omega)
  have g0 : DataW.trod enc Tryz.prog w base sp held n 9 (((c0 :: r).drop 0).take (Tryz.prog.cellsOf 9)) = some y0 := (hf 0 _ rfl).trans e0
  have g1 : DataW.trod enc Tryz.prog w base sp held n 30 (((c0 :: r).drop 1).take (Tryz.prog.cellsOf 30)) = some y1 := (hf 1 _ rfl).trans e1
  rw [tyCellsStr] at g0
  rw [tyCells, show ((c0 :: r).drop 1).take 7 = r by simp [← hr]] at g1
  obtain ⟨s, k0, -, z0⟩ := DataW.trod_string Tryz.underlying9 g0
  obtain ⟨t, ht⟩ := open_tree _ _ _ g1
  simp at k0
  subst k0
  unfold maxLen at z0
  exact ⟨⟨s, t⟩, z0, r, rfl, ht⟩
theorem open_if (n : Nat) (cs : List Value) (x : DataW H × List MemPlace) (h : DataW.trod enc Tryz.prog w base sp held n 37 cs = some x) : ∃ a, ifE w cs a := by
  obtain ⟨xs, n, hfuel, -, hlen, hxl, hf⟩ := DataW.trod_struct Tryz.underlying37 h
  rw [ifCells] at hlen
  obtain ⟨c0, c1, c2, c3, c4, rfl⟩ := list5 cs hlen
  have q : ∀ j, j < 5 → ∃ y, xs[j]? = some y := fun j hj => ⟨_, List.getElem?_eq_getElem (by rw [hxl]; exact hj)⟩
  obtain ⟨y0, e0⟩ := q 0 (by omega); obtain ⟨y1, e1⟩ := q 1 (by omega); obtain ⟨y2, e2⟩ := q 2 (by omega); obtain ⟨y3, e3⟩ := q 3 (by omega); obtain ⟨y4, e4⟩ := q 4 (by omega)
  have g0 : DataW.trod enc Tryz.prog w base sp held n 9 (([c0, c1, c2, c3, c4].drop 0).take (Tryz.prog.cellsOf 9)) = some y0 := (hf 0 _ rfl).trans e0
  have g1 : DataW.trod enc Tryz.prog w base sp held n 3 (([c0, c1, c2, c3, c4].drop 1).take (Tryz.prog.cellsOf 3)) = some y1 := (hf 1 _ rfl).trans e1
  have g2 : DataW.trod enc Tryz.prog w base sp held n 9 (([c0, c1, c2, c3, c4].drop 2).take (Tryz.prog.cellsOf 9)) = some y2 := (hf 2 _ rfl).trans e2
  have g3 : DataW.trod enc Tryz.prog w base sp held n 35 (([c0, c1, c2, c3, c4].drop 3).take (Tryz.prog.cellsOf 35)) = some y3 := (hf 3 _ rfl).trans e3
  have g4 : DataW.trod enc Tryz.prog w base sp held n 35 (([c0, c1, c2, c3, c4].drop 4).take (Tryz.prog.cellsOf 35)) = some y4 := (hf 4 _ rfl).trans e4
  rw [tyCellsStr] at g0 g2
  rw [tyCellsInt] at g1
  rw [nmCellsL] at g3 g4
  obtain ⟨p, k0, -, z0⟩ := DataW.trod_string Tryz.underlying9 g0
  obtain ⟨m, k1, -, -⟩ := DataW.trod_int Tryz.underlying3 g1
  obtain ⟨d, k2, -, z2⟩ := DataW.trod_string Tryz.underlying9 g2
  have h3 : DataW.trod enc Tryz.prog w base sp held n 35 [c3] = some y3 := g3
  have h4 : DataW.trod enc Tryz.prog w base sp held n 35 [c4] = some y4 := g4
  obtain ⟨At, ct, lt, rfl, hlt, kT, hT⟩ := open_rows7 nmR 35 ⟨⟨#[]⟩, noT⟩ Tryz.underlying35 nmCells (by decide) open_nm h3
  obtain ⟨Av, cv, lv, rfl, hlv, kV, hV⟩ := open_rows7 nmR 35 ⟨⟨#[]⟩, noT⟩ Tryz.underlying35 nmCells (by decide) open_nm h4
  simp at k0 k1 k2
  subst k0 k1 k2
  unfold maxLen at z0 z2 hlt hlv
  exact ⟨⟨p, m, d, lt, lv⟩, At, ct, Av, cv, rfl, z0, z2, hlt, hlv, hT, hV⟩
set_option maxRecDepth 100000 in
theorem open_env {r : Go.Reach} {b0 : Nat} {v : Value} {d : DataW H} {p : List MemPlace} (hv : Value.okWide Tryz.prog w r b0 26 v) (h : DataW.Trod enc Tryz.prog w base sp held 26 v d p) : ∃ (A : Option Addr) (c : Nat) (env : List If), v = .slice A env.length c ∧ env.length ≤ maxLen ∧ RowIn ifR w A env := by
  obtain ⟨a, n, c, rfl⟩ := okWide_slice Tryz.underlying26 hv
  obtain ⟨fuel, hf⟩ := h
  have hf' : DataW.trod enc Tryz.prog w base sp held fuel 26 [.slice a n c] = some (d, p) := hf
  obtain ⟨A, c, l, e, hl, -, hR⟩ := open_rows7 ifR 26 ⟨⟨#[]⟩, 0, ⟨#[]⟩, [], []⟩ Tryz.underlying26 ifCells (by decide) open_if hf'
  exact ⟨A, c, l, e, hl, hR⟩
end
end Go.Proofs.YtkgmdbkcldojnaaGreatDoor

/-  -/
namespace Go.Proofs.YtkgmdbkcldojnaaGreatDoor
open Go Go.RowKit Go.Shelf
open Go.Sort Go.Maps
open M
def optN : Option Nat → Int
  | some i => i
  | none => -1
theorem idx_yes {α : Type} {p : α → Bool} {l : List α} {k : Nat} {x : α} (hx : l[k]? = some x) (hn : ∀ y ∈ l.take k, p y = false) (h : p x = true) : l.findIdx? p = some k := by
  rw [List.findIdx?_eq_some_iff_getElem]
  obtain ⟨hk, rfl⟩ := List.getElem?_eq_some_iff.1 hx
  refine ⟨hk, h, fun j hj => ?_⟩
  rw [hn _ (List.mem_of_getElem? (i := j) (by rw [List.getElem?_take, if_pos hj]; exact List.getElem?_eq_getElem (by omega)))]
  simp
theorem idx_no {α : Type} {p : α → Bool} {l : List α} (hn : ∀ x ∈ l, p x = false) : l.findIdx? p = none := by rw [List.findIdx?_eq_none_iff]; exact hn
set_option maxRecDepth 100000 in
set_option maxHeartbeats 4000000 in
theorem rof8_any (A : Option Addr) (c : Nat) (l : List Nm) (s : ByteArray) (w : World) (h : RowIn nmR w A l) (hl : l.length ≤ 9223372036854775807) :
    Calls Tryz.prog 13 #[.slice A l.length c, .string s] w fun e w' => e = .returned (.int .i64 (optN (ofI l s))) ∧ Below w.heap.size w w' := by
  have HR := Lib.hid h
  obtain ⟨n, hn⟩ : ∃ n, n = l.length := ⟨_, rfl⟩
  have HN := Lib.hid hn
  rw [← hn] at hl ⊢
  clear h hn
  go_enter Tryz.func13, Tryz.ntmps13
  go_wp2_with fail
  go_loopw [5] (fun s5 wr => ∃ k : Nat, k ≤ n ∧ s5 = .int .i64 k ∧ Hid (∀ x ∈ l.take k, isNm s x = false) ∧ Hid (Below w.heap.size w wr)) (fun s5 _ => n - (intOf s5).toNat)
  case atStart => exact ⟨0, by omega, rfl, Lib.hid (by simp), Lib.hid (Below.refl _ _)⟩
  case round =>
    obtain ⟨k, hk, rfl, HNO, HB⟩ := hrel
    obtain ⟨wo, rfl⟩ : ∃ wo : World, wo = wr := ⟨_, rfl⟩
    by_cases hlt : k < n
    · obtain ⟨x, hx⟩ : ∃ x, l[k]? = some x := ⟨_, List.getElem?_eq_getElem (by rw [← HN.out]; exact hlt)⟩
      obtain ⟨g, o, Bn, cB, Bs, dB, rfl, hg, a0, -⟩ := (HR.out.below HB.out).nm hx
      have hq := str_eq x.name s
      have HX := Lib.hid hx
      have hk0 : (0 : Int) ≤ k := by omega
      have hk1 : (k : Int) < n := by omega
      clear hx
      by_cases hs : x.name = s
      · have RES : Hid (ofI l s = some k) := Lib.hid (idx_yes HX.out HNO.out (by simp [isNm, hs]))
        rw [decide_eq_true hs] at hq
        clear hs
        go_wp2_with fail
        go_ret
        exact ⟨by rw [RES.out]; rfl, HB.out⟩
      · have NX : Hid (∀ y ∈ l.take (k + 1), isNm s y = false) := Lib.hid (fun y hy => by
          rw [List.take_add_one, HX.out] at hy
          rcases List.mem_append.1 hy with h | h
          · exact HNO.out y h
          · simp at h; rw [h]; simp [isNm, hs])
        rw [decide_eq_false hs] at hq
        clear hs
        go_wp2_with fail
        go_roundw
        case rel => exact ⟨k + 1, by omega, by go_num, NX, HB⟩
        case measure => simp [intOf]; omega
    · have RES : Hid (ofI l s = none) := Lib.hid (idx_no (fun x hx => HNO.out x (by rw [List.take_of_length_le (by rw [← HN.out]; omega)]; exact hx)))
      go_wp2_with fail
      go_ret
      exact ⟨by rw [RES.out]; rfl, HB.out⟩
set_option maxRecDepth 100000 in
set_option maxHeartbeats 8000000 in
theorem rfind8_any (A : Option Addr) (c : Nat) (env : List If) (p : ByteArray) (j : Int) (d : ByteArray) (w : World) (h : RowIn ifR w A env) (hl : env.length ≤ 9223372036854775807) :
    Calls Tryz.prog 11 #[.slice A env.length c, .string p, .int .i64 j, .string d] w fun e w' => e = .returned (.int .i64 (optN (findI env p j d))) ∧ Below w.heap.size w w' := by
  have HR := Lib.hid h
  obtain ⟨n, hn⟩ : ∃ n, n = env.length := ⟨_, rfl⟩
  have HN := Lib.hid hn
  rw [← hn] at hl ⊢
  clear h hn
  go_enter Tryz.func11, Tryz.ntmps11
  go_wp2_with fail
  go_loopw [9] (fun s9 wr => ∃ k : Nat, k ≤ n ∧ s9 = .int .i64 k ∧ Hid (∀ x ∈ env.take k, isIf p j d x = false) ∧ Hid (Below w.heap.size w wr)) (fun s9 _ => n - (intOf s9).toNat)
  case atStart => exact ⟨0, by omega, rfl, Lib.hid (by simp), Lib.hid (Below.refl _ _)⟩
  case round =>
    obtain ⟨k, hk, rfl, HNO, HB⟩ := hrel
    obtain ⟨wo, rfl⟩ : ∃ wo : World, wo = wr := ⟨_, rfl⟩
    by_cases hlt : k < n
    · obtain ⟨x, hx⟩ : ∃ x, env[k]? = some x := ⟨_, List.getElem?_eq_getElem (by rw [← HN.out]; exact hlt)⟩
      obtain ⟨g, o, At, ct, Av, cv, rfl, hg, a0, a1, a2, -⟩ := (HR.out.below HB.out).ifc hx
      have hq := str_eq x.pkg p
      have hr := str_eq x.mod d
      have HX := Lib.hid hx
      have hk0 : (0 : Int) ≤ k := by omega
      have hk1 : (k : Int) < n := by omega
      have hjj : ∃ b, (x.major == j) = b := ⟨_, rfl⟩
      obtain ⟨b2, hb2⟩ := hjj
      obtain ⟨b1, hb1⟩ : ∃ b, b = decide (x.pkg = p) := ⟨_, rfl⟩
      obtain ⟨b3, hb3⟩ : ∃ b, b = decide (x.mod = d) := ⟨_, rfl⟩
      rw [← hb1] at hq
      rw [← hb3] at hr
      have HIF : Hid (isIf p j d x = (b1 && (b2 && b3))) := Lib.hid (by rw [hb1, hb3, ← hb2]; rfl)
      clear hx hb1 hb3
      cases hbb : (b1 && (b2 && b3)) with
      | true =>
        have RES : Hid (findI env p j d = some k) := Lib.hid (idx_yes HX.out HNO.out (by rw [HIF.out, hbb]))
        simp only [Bool.and_eq_true] at hbb
        obtain ⟨rfl, rfl, rfl⟩ := hbb
        go_wp2_with fail
        go_ret
        exact ⟨by rw [RES.out]; rfl, HB.out⟩
      | false =>
        have NX : Hid (∀ y ∈ env.take (k + 1), isIf p j d y = false) := Lib.hid (fun y hy => by
          rw [List.take_add_one, HX.out] at hy
          rcases List.mem_append.1 hy with h | h
          · exact HNO.out y h
          · simp at h; rw [h, HIF.out, hbb])
        cases b1 with
        | false =>
          clear hbb
          go_wp2_with fail
          go_roundw
          case rel => exact ⟨k + 1, by omega, by go_num, NX, HB⟩
          case measure => simp [intOf]; omega
        | true =>
          cases b2 with
          | false =>
            clear hbb
            go_wp2_with fail
            go_roundw
            case rel => exact ⟨k + 1, by omega, by go_num, NX, HB⟩
            case measure => simp [intOf]; omega
          | true =>
            obtain rfl : b3 = false := by simpa using hbb
            clear hbb
            go_wp2_with fail
            go_roundw
            case rel => exact ⟨k + 1, by omega, by go_num, NX, HB⟩
            case measure => simp [intOf]; omega
    · have RES : Hid (findI env p j d = none) := Lib.hid (idx_no (fun x hx => HNO.out x (by rw [List.take_of_length_le (by rw [← HN.out]; omega)]; exact hx)))
      go_wp2_with fail
      go_ret
      exact ⟨by rw [RES.out]; rfl, HB.out⟩
end Go.Proofs.YtkgmdbkcldojnaaGreatDoor

/-  -/
namespace Go.Proofs.YtkgmdbkcldojnaaGreatDoor
open Go.RowKit
open M
set_option maxHeartbeats 2000000 in
theorem plain_any (N : Nat) : ∀ (t : Ty), many t ≤ N → ∀ (v : Value) (w : World), TyV w v t →
    Calls Tryz.prog 107 #[v] w fun e w' => e = .returned (.bool (plainT t)) ∧ Below w.heap.size w w' := by
  induction N with
  | zero => intro t h; have := many_pos t; omega
  | succ N ih =>
    intro t hN v w hv
    obtain ⟨l, rfl, hT⟩ := hv
    obtain ⟨An, cn, As, cs, rfl, -, -, -, hzn, hz, -, hS⟩ := hT.parts
    have HS := Lib.hid hS
    clear hT hS
    generalize hn : t.subs.length = n at hz
    have HN := Lib.hid hn
    clear hn
    have HE := Lib.hid (plain_eq t)
    rcases hid_or (t.kind == 8) with hk8 | hk8
    · have hk8' := hk8.out
      go_enter Tryz.func107, Tryz.ntmps107
      go_wp2_with fail
      go_loopw [3] (fun i wr => ∃ k : Nat, k ≤ n ∧ i = .int .i64 k ∧ Hid (∀ j s, j < k → t.subs[j]? = some s → plainT s = true) ∧ Below (boxed w #[.int .i64 t.kind, .string t.pkg, .int .i64 t.major, .string t.mod, .string t.name, .slice An t.names.length cn, .slice As n cs]).heap.size (boxed w #[.int .i64 t.kind, .string t.pkg, .int .i64 t.major, .string t.mod, .string t.name, .slice An t.names.length cn, .slice As n cs]) wr) (fun i _ => n - (intOf i).toNat)
      case atStart => exact ⟨0, by omega, rfl, Lib.hid (fun j s h => by omega), Below.refl _ _⟩
      case round =>
        obtain ⟨k, hk, rfl, HP, hb⟩ := hrel
        obtain ⟨wo, rfl⟩ : ∃ wo : World, wo = wr := ⟨_, rfl⟩
        have b6 := box_cell hb 6
        simp at b6
        have HB := Lib.hid (box_below hb)
        by_cases hlt : k < n
        · obtain ⟨s, hs⟩ : ∃ s, t.subs[k]? = some s := ⟨_, List.getElem?_eq_getElem (by rw [HN.out]; exact hlt)⟩
          obtain ⟨g, o, v0, v1, v2, v3, v4, v5, v6, rfl, -, h0, h1, h2, h3, h4, h5, h6, hs7⟩ := HS.out.below HB.out k s hs
          have hsm := sub_many hs
          have IH := Lib.hid (ih s (by omega) (.agg #[v0, v1, v2, v3, v4, v5, v6]) wo ⟨_, rfl, hs7⟩)
          have HSS := Lib.hid hs
          clear hs7 hs hsm
          rcases hid_or (plainT s) with hp | hp
          · have R : Hid (plainT t = false) := Lib.hid (by
              rw [HE.out, Bool.and_eq_false_iff]; right
              rw [Bool.eq_false_iff, ne_eq, plainL_mem]
              intro h
              have := h s (List.mem_of_getElem? HSS.out)
              rw [hp.out] at this; cases this)
            go_wp2_with fail
            refine IH.out.mono ?_; rintro e w2 ⟨rfl, hb2⟩; rw [hp.out]
            have hb3 := below_over hb hb2
            clear b6 h0 h1 h2 h3 h4 h5 h6 hb hb2
            go_wp2_with fail
            go_ret
            exact ⟨ret_bool R.out, box_below hb3⟩
          · go_wp2_with fail
            refine IH.out.mono ?_; rintro e w2 ⟨rfl, hb2⟩; rw [hp.out]
            have hb3 := below_over hb hb2
            clear b6 h0 h1 h2 h3 h4 h5 h6 hb hb2
            go_wp2_with fail
            go_roundw
            case rel => exact ⟨k + 1, by omega, by go_num, Lib.hid (fun j q hj hq => by
              rcases Nat.lt_or_ge j k with a | a
              · exact HP.out j q a hq
              · rw [show j = k by omega, HSS.out] at hq
                obtain rfl := Option.some.inj hq
                exact hp.out), hb3⟩
            case measure => simp [intOf]; omega
        · have R : Hid (plainT t = true) := Lib.hid (by
            rw [HE.out, hk8.out, (plainL_mem t.subs).2 (fun s hs => ?_)]
            · rfl
            · obtain ⟨j, hj⟩ := List.getElem?_of_mem hs
              have hjl := (List.getElem?_eq_some_iff.1 hj).1
              exact HP.out j s (by rw [HN.out] at hjl; omega) hj)
          go_wp2_with fail
          go_ret
          exact ⟨ret_bool R.out, HB.out⟩
    · have hk8' := hk8.out
      have R : Hid (plainT t = false) := Lib.hid (by rw [HE.out, hk8.out]; rfl)
      rw [R.out]
      go_enter Tryz.func107, Tryz.ntmps107
      go_wp2_with fail
      go_ret
      exact ⟨rfl, below_new (Below.refl _ _) _⟩
end Go.Proofs.YtkgmdbkcldojnaaGreatDoor

/-  -/
namespace Go.Proofs.YtkgmdbkcldojnaaGreatDoor
open Go Go.RowKit
open Go.Sort
section
variable {P : Program} {w : World}
theorem run_append_rows (base base2 : Nat) (t ty e : TypeId) (i : TypeInfo) (z : Value) (size bytes : Nat) (ht : P.underlying t = some (.slice e)) (hi : P.info? e = some i) (hz : i.zero = some z)
    (hsize : i.size = size) (hby : i.bytes = bytes) (hzs : z.cells.size = size) (hsz : 0 < size)
    (v : Value) (n : Nat) (xs : List Value) (hown : w.ownsRow base e size v n xs) (vx : Value) (m : Nat) (ys : List Value) (hx : w.ownsRow base2 e size vx m ys) (h1 : ∀ u ∈ ys, u.oneCell' = true)
    (h63 : n + m ≤ maxLen) (hbytes : (n + m) * bytes ≤ 140737488355328) (hbase : base ≤ w.heap.size) :
    ∃ v' w', (Builtin.append_ #[t, t] ty #[v, vx]).run P w = .ok v' w' ∧ w'.ownsRow base e size v' (n + m) (xs ++ ys) ∧ w.grownBy w' v.ownBlock := by
  rcases hx.2 with ⟨rfl, rfl⟩ | ⟨g, cap, cur, rfl, hB, hg, hnc, hcm, hcs, htake⟩
  · have hy : ys = [] := List.length_eq_zero_iff.1 (by have := hx.1; simpa using this)
    subst hy
    exact ⟨v, w, run_append_empty base t ty e i size ht hi v n 0 xs hown, by rw [List.append_nil]; exact hown, ⟨rfl, rfl, rfl, Nat.le_refl _, fun _ _ _ => rfl⟩⟩
  · obtain ⟨v', w', hr, h2, h3, -, -⟩ := run_append_own_at (P := P) w base t ty e i z size bytes ht hi hz hsize hby hzs hsz v n xs hown ⟨g, 0, none⟩ m cap ys hx.1 (fun j u hj => by
      rw [WideShapes.add_plain, Nat.zero_add, Lib.cell_of_heap hg, ← Array.getElem?_toList]
      have e : (cur.toList.take (m * size))[j]? = some u := by rw [htake, hj]
      rw [List.getElem?_take] at e
      split at e
      · exact e
      · cases e) h1 h63 hbytes hbase
    exact ⟨v', w', hr, h2, h3⟩
theorem wp_append_rows {o : Oper} {a : Act} {K : Act → World → Prop} {Q : Exit → Act → World → Prop} (s x : Operand) (t : TypeId)
    (ho : o.op = .call { callee := .builtin .append, args := #[s, x], argTypes := #[t, t] })
    (base base2 : Nat) (e : TypeId) (i : TypeInfo) (z : Value) (size bytes : Nat) (ht : P.underlying t = some (.slice e)) (hi : P.info? e = some i) (hz : i.zero = some z)
    (hsize : i.size = size) (hby : i.bytes = bytes) (hzs : z.cells.size = size) (hsz : 0 < size)
    (v : Value) (n : Nat) (xs : List Value) (hs : a.eval s = v) (hown : w.ownsRow base e size v n xs) (vx : Value) (m : Nat) (ys : List Value) (hxe : a.eval x = vx) (hx : w.ownsRow base2 e size vx m ys) (h1 : ∀ u ∈ ys, u.oneCell' = true)
    (h63 : n + m ≤ maxLen) (hbytes : (n + m) * bytes ≤ 140737488355328) (hbase : base ≤ w.heap.size)
    (h : ∀ v' w', w'.ownsRow base e size v' (n + m) (xs ++ ys) → w.grownBy w' v.ownBlock → K (a.put o.dst v') w') : o.wp P a w K Q := by
  obtain ⟨v', w', hr, h2, h3⟩ := run_append_rows (P := P) base base2 t o.type e i z size bytes ht hi hz hsize hby hzs hsz v n xs hown vx m ys hx h1 h63 hbytes hbase
  unfold Oper.wp execOp
  simp only [ho, resolve, invoke, builtin, Sem.run_bind, Sem.run_pure, Result.andThen_ok, List.map_toArray, List.map_cons, List.map_nil, hs, hxe, hr]
  exact h v' w' h2 h3
theorem wpList_append_rows {ops : Array Oper} {rest : List Oper} {o : Oper} {a : Act} {Q : Exit → Act → World → Prop} (hgd : o.guard = none) (s x : Operand) (t : TypeId)
    (ho : o.op = .call { callee := .builtin .append, args := #[s, x], argTypes := #[t, t] })
    (base base2 : Nat) (e : TypeId) (i : TypeInfo) (z : Value) (size bytes : Nat) (ht : P.underlying t = some (.slice e)) (hi : P.info? e = some i) (hz : i.zero = some z)
    (hsize : i.size = size) (hby : i.bytes = bytes) (hzs : z.cells.size = size) (hsz : 0 < size)
    (v : Value) (n : Nat) (xs : List Value) (hs : a.eval s = v) (hown : w.ownsRow base e size v n xs) (vx : Value) (m : Nat) (ys : List Value) (hxe : a.eval x = vx) (hx : w.ownsRow base2 e size vx m ys) (h1 : ∀ u ∈ ys, u.oneCell' = true)
    (h63 : n + m ≤ maxLen) (hbytes : (n + m) * bytes ≤ 140737488355328) (hbase : base ≤ w.heap.size)
    (h : ∀ v' w', w'.ownsRow base e size v' (n + m) (xs ++ ys) → w.grownBy w' v.ownBlock → wpList P ops Q rest (a.put o.dst v') w') : wpList P ops Q (o :: rest) a w :=
  wpList_plain hgd fun _ hK => wp_append_rows s x t ho base base2 e i z size bytes ht hi hz hsize hby hzs hsz v n xs hs hown vx m ys hxe hx h1 h63 hbytes hbase fun v' w' h2 h3 => hK _ _ (h v' w' h2 h3)
end
theorem below_grown {B : Nat} {w w1 w2 : World} {v : Value} {e : TypeId} {z n : Nat} {xs : List Value} (hb : Below B w w1) (hB : B ≤ w1.heap.size) (hown : w1.ownsRow B e z v n xs) (hg : w1.grownBy w2 v.ownBlock) : Below B w w2 :=
  hb.trans ⟨hg.os, hg.tape, hg.output, hg.size, fun b h => hg.block b (Nat.lt_of_lt_of_le h hB) (fun e => by have := (hown.lt b e.symm).1; omega)⟩
end Go.Proofs.YtkgmdbkcldojnaaGreatDoor

/-  -/
namespace Go.Proofs.YtkgmdbkcldojnaaGreatDoor
open Go.RowKit Go.Shelf
open Go.Sort Go.Maps
open M
def ShL (l : List Value) (t : Ty) : Prop := ∃ (An : Option Addr) (cn : Nat) (As : Option Addr) (cs : Nat), l = [.int .i64 t.kind, .string t.pkg, .int .i64 t.major, .string t.mod, .string t.name, .slice An t.names.length cn, .slice As t.subs.length cs]
theorem ShL.one {l : List Value} {t : Ty} (h : ShL l t) : ∀ u ∈ l, u.oneCell' = true := by
 obtain ⟨An, cn, As, cs, rfl⟩ := h
 intro u hu
 simp at hu
 rcases hu with rfl | rfl | rfl | rfl | rfl | rfl | rfl <;> rfl
def OwnL (w : World) (lo : Nat) (v : Value) (xs : List Ty) : Prop :=
 ∃ C : List (List Value), C.length = xs.length ∧ (∀ l, l ∈ C → l.length = 7) ∧ w.ownsRow lo 30 7 v xs.length C.flatten ∧ ∀ (i : Nat) (l : List Value) (x : Ty), C[i]? = some l → xs[i]? = some x → ShL l x
theorem OwnL.nil (w : World) (lo : Nat) : OwnL w lo (.slice none 0 0) [] := ⟨[], rfl, fun l h => (by cases h), World.ownsRow_nil _ _ _ _, fun i l x h => by simp at h⟩
theorem OwnL.keep {w w' : World} {lo : Nat} {v : Value} {xs : List Ty} (h : OwnL w lo v xs) (hb : ∀ b, lo ≤ b → b < w.heap.size → w'.heap[b]? = w.heap[b]?) : OwnL w' lo v xs := by
 obtain ⟨C, h1, h2, h3, h4⟩ := h
 exact ⟨C, h1, h2, own_from h3 hb, h4⟩
theorem OwnL.mono {w : World} {lo lo' : Nat} {v : Value} {xs : List Ty} (h : OwnL w lo v xs) (hl : lo' ≤ lo) : OwnL w lo' v xs := by
 obtain ⟨C, h1, h2, h3, h4⟩ := h
 refine ⟨C, h1, h2, ⟨h3.1, ?_⟩, h4⟩
 rcases h3.2 with h | ⟨g, cap, cur, hv, hB, rest⟩
 ·exact .inl h
 ·exact .inr ⟨g, cap, cur, hv, Nat.le_trans hl hB, rest⟩
theorem OwnL.joined {w : World} {lo : Nat} {v : Value} {xs ys : List Ty} {C D : List (List Value)} (h1 : C.length = xs.length) (h2 : ∀ l, l ∈ C → l.length = 7) (h4 : ∀ (i : Nat) (l : List Value) (x : Ty), C[i]? = some l → xs[i]? = some x → ShL l x)
  (k1 : D.length = ys.length) (k2 : ∀ l, l ∈ D → l.length = 7) (k4 : ∀ (i : Nat) (l : List Value) (x : Ty), D[i]? = some l → ys[i]? = some x → ShL l x) (hown : w.ownsRow lo 30 7 v (xs.length + ys.length) (C.flatten ++ D.flatten)) : OwnL w lo v (xs ++ ys) := by
 refine ⟨C ++ D, by simp [h1, k1], fun l hl => ?_, by rw [List.length_append, List.flatten_append]; exact hown, fun i l x hl hx => ?_⟩
 ·rcases List.mem_append.1 hl with h | h
  ·exact h2 l h
  ·exact k2 l h
 ·rcases Nat.lt_or_ge i xs.length with hi | hi
  ·rw [List.getElem?_append_left (by omega)] at hl hx
   exact h4 i l x hl hx
  ·rw [List.getElem?_append_right (by omega)] at hl hx
   rw [h1] at hl
   exact k4 _ l x hl hx
theorem OwnL.get {w : World} {lo : Nat} {A : Option Addr} {n c : Nat} {xs : List Ty} (h : OwnL w lo (.slice A n c) xs) {i : Nat} {x : Ty} (hx : xs[i]? = some x) : ∃ (g : Nat) (An : Option Addr) (cn : Nat) (As : Option Addr) (cs : Nat), A = some ⟨g, 0, none⟩ ∧ lo ≤ g ∧ g < w.heap.size ∧
  ∀ (j : Nat) (v : Value), ([.int .i64 x.kind, .string x.pkg, .int .i64 x.major, .string x.mod, .string x.name, .slice An x.names.length cn, .slice As x.subs.length cs] : List Value)[j]? = some v → w.cell? ⟨g, i * 7 + j, none⟩ = some v := by
 obtain ⟨C, h1, h2, h3, h4⟩ := h
 have hi := (List.getElem?_eq_some_iff.1 hx).1
 have hli : C[i]? = some C[i] := List.getElem?_eq_getElem (by omega)
 obtain ⟨An, cn, As, cs, e⟩ := h4 i _ x hli hx
 rcases h3.2 with ⟨e, h0⟩ | ⟨g, cap, cur, hv, hB, hg, -, -, hcl, htake⟩
 ·omega
 ·cases hv
  refine ⟨g, An, cn, As, cs, rfl, hB, (Array.getElem?_eq_some_iff.1 hg).1, fun j v hv => ?_⟩
  rw [← e] at hv
  have hj := (List.getElem?_eq_some_iff.1 hv).1
  rw [h2 _ (List.getElem_mem (by omega))] at hj
  have hf := flatk_at C h2 i j _ hli hj
  rw [Lib.cell_of_heap hg, ← Array.getElem?_toList]
  have e2 : (cur.toList.take (xs.length * 7))[i * 7 + j]? = C[i][j]? := by rw [htake, hf]
  rw [List.getElem?_take] at e2
  split at e2
  ·rw [e2]; exact hv
  ·omega
set_option maxRecDepth 100000 in
set_option maxHeartbeats 8000000 in
theorem rlocals_any (N : Nat) : ∀ (t : Ty), many t ≤ N → many t ≤ 9000 → ∀ (v : Value) (w : World), TyV w v t →
  Calls Tryz.prog 39 #[v] w fun e w' => ∃ v' : Value, e = .returned v' ∧ OwnL w' w.heap.size v' (locT t) ∧ Below w.heap.size w w' := by
 induction N with
 | zero => intro t h; have := many_pos t; omega
 | succ N ih =>
 intro t hN hM v w hv
 obtain ⟨l, rfl, hT⟩ := hv
 obtain ⟨An, cn, As, cs, rfl, -, -, -, -, hz, -, hS⟩ := hT.parts
 obtain ⟨W1, hW1⟩ : ∃ W1, W1 = w.alloc (.cells #[.int .i64 t.kind, .string t.pkg, .int .i64 t.major, .string t.mod, .string t.name, .slice An t.names.length cn, .slice As t.subs.length cs] 30) := ⟨_, rfl⟩
 have hB : Below w.heap.size w W1 := by rw [hW1]; exact below_new (Below.refl _ _) _
 have X1 : W1.heap[w.heap.size]? = some (.cells #[.int .i64 t.kind, .string t.pkg, .int .i64 t.major, .string t.mod, .string t.name, .slice An t.names.length cn, .slice As t.subs.length cs] 30 (0, 0)) := by rw [hW1]; exact heap_alloc_new w _
 have hlo : w.heap.size < W1.heap.size := by rw [hW1]; simp
 have HS := Lib.hid (hS.below hB)
 have HB := Lib.hid hB
 have HW1 := Lib.hid hW1
 have HX1 := Lib.hid X1
 have HMN : Hid (∀ s ∈ t.subs, many s ≤ N ∧ many s ≤ 9000) := Lib.hid (fun s hs => by have h1 := manyL_mem _ _ hs; have h2 := manyL_eq t; omega)
 have hml : t.subs.length ≤ 9000 := by have := manyL_len t.subs; have := manyL_eq t; omega
 obtain ⟨L0, hL0⟩ : ∃ L0, L0 = (if t.kind = 8 then [t] else []) := ⟨_, rfl⟩
 have RS : Hid (locT t = L0 ++ locL t.subs) := Lib.hid (by rw [hL0]; exact locT_eq t)
 have HLN : Hid (∀ k, (L0 ++ locL (t.subs.take k)).length ≤ 9000) := Lib.hid (fun k => by
  have h1 := locT_len t
  rw [RS.out] at h1
  have h2 : locL t.subs = locL (t.subs.take k) ++ locL (t.subs.drop k) := by rw [← locL_append, List.take_append_drop]
  rw [h2, ← List.append_assoc, List.length_append] at h1
  omega)
 obtain ⟨q, hq⟩ : ∃ q, q = t.subs.length := ⟨_, rfl⟩
 have HQ := Lib.hid hq
 rw [← hq] at hml
 obtain ⟨i0, hi, hz0, hz1, hz2⟩ := info_parts typ_info
 clear hT hS hB hW1 X1 hN hM hz hq
 have X1 := HX1.out
 have y0 := Lib.cell_of_heap X1 0
 have y1 := Lib.cell_of_heap X1 1
 have y2 := Lib.cell_of_heap X1 2
 have y3 := Lib.cell_of_heap X1 3
 have y4 := Lib.cell_of_heap X1 4
 have y5 := Lib.cell_of_heap X1 5
 have y6 := Lib.cell_of_heap X1 6
 simp at y0 y1 y2 y3 y4 y5 y6
 clear X1
 by_cases hk : t.kind = 8
 ·have q8 : (t.kind == 8) = true := by rw [hk]; rfl
  rw [if_pos hk] at hL0
  clear hk
  go_enter Tryz.func39, Tryz.ntmps39
  go_upto_region 3 with fail
  rw [← HW1.out]
  have hAL : ∀ oo, W1.heap.size ≤ (W1.alloc oo).heap.size := fun oo => by simp
  go_wp2_with (first | (refine wpList_append_lies _ rfl (.tmp 8) (.tmp 10) 28 rfl W1.heap.size 30 i0 _ 7 112 Tryz.underlying28 hi hz0 hz1 hz2 (by rfl) (by decide) (.slice none 0 0) 0 [] rfl (World.ownsRow_nil _ _ _ _) ⟨W1.heap.size, 0, none⟩ 1 1 [.int .i64 t.kind, .string t.pkg, .int .i64 t.major, .string t.mod, .string t.name, .slice An t.names.length cn, .slice As t.subs.length cs] rfl rfl (fun p u hq => by rw [WideShapes.add_plain, Nat.zero_add, Lib.cell_of_heap (heap_alloc_new W1 _), ← hq, ← List.getElem?_toArray]) (fun u hu => by simp at hu; rcases hu with rfl | rfl | rfl | rfl | rfl | rfl | rfl <;> rfl) Nat.one_pos (by unfold maxLen; omega) (by omega) (hAL _) _ rfl ?_; intro gb cap w3 hown hgrow hat hlt3))
  have START : Hid (OwnL w3 W1.heap.size (.slice (some ⟨gb, 0, none⟩) 1 cap) (L0 ++ locL (t.subs.take 0))) := Lib.hid (by
   rw [hL0]
   exact ⟨[[.int .i64 t.kind, .string t.pkg, .int .i64 t.major, .string t.mod, .string t.name, .slice An t.names.length cn, .slice As t.subs.length cs]], rfl, fun l hl => by rw [List.mem_singleton.1 hl]; rfl, hown, fun i l x hl hx => by
    have hi0 : i = 0 := by have := (List.getElem?_eq_some_iff.1 hl).1; simp at this; exact this
    subst hi0
    simp [locL] at hl hx
    rw [← hl, ← hx]; exact ⟨An, cn, As, cs, rfl⟩⟩)
  have STARTB : Hid (Below W1.heap.size W1 w3) := Lib.hid ⟨hgrow.os, hgrow.tape, hgrow.output, Nat.le_trans (by simp) hgrow.size, fun b hb => (hgrow.block b (by simp; omega) (by simp [Value.ownBlock])).trans (Lib.alloc_old _ _ _ hb)⟩
  clear hown hgrow hat hlt3 hAL y0 y1 y2 y3 y4 y5 y6 q8 hL0
  go_wp2_with fail
  go_loopw [3, 4] (fun s3 iv wr => ∃ (k : Nat) (v3 : Value), v3 = s3 ∧ k ≤ q ∧ iv = .int .i64 k ∧ Hid (OwnL wr W1.heap.size v3 (L0 ++ locL (t.subs.take k))) ∧ Hid (Below W1.heap.size W1 wr)) (fun _ iv _ => q - (intOf iv).toNat)
  case atStart => exact ⟨0, _, rfl, by omega, rfl, START, STARTB⟩
  case round =>
   obtain ⟨k, v3, rfl, hkq, rfl, HO, HBo⟩ := hrel
   obtain ⟨wo, rfl⟩ : ∃ wo : World, wo = wr := ⟨_, rfl⟩
   have hl1 := Nat.lt_of_lt_of_le hlo HBo.out.size
   have y6 := Lib.cell_of_heap ((HBo.out.block w.heap.size hlo).trans HX1.out) 6
   simp at y6
   rw [← HQ.out] at y6
   by_cases hlt : k < q
   ·obtain ⟨s, hs⟩ : ∃ s, t.subs[k]? = some s := ⟨_, List.getElem?_eq_getElem (by rw [← HQ.out]; exact hlt)⟩
    obtain ⟨g, o, v0, v1, v2, v3', v4, v5, v6, rfl, hg, h0, h1, h2, h3, h4, h5, h6, hs7⟩ := HS.out.below HBo.out k s hs
    obtain ⟨Am, cm, At, ct, rfl, rfl, rfl, rfl, rfl, rfl, rfl⟩ := hs7.seven
    have IH := Lib.hid (ih s (HMN.out s (List.mem_of_getElem? hs)).1 (HMN.out s (List.mem_of_getElem? hs)).2 (.agg #[.int .i64 s.kind, .string s.pkg, .int .i64 s.major, .string s.mod, .string s.name, .slice Am s.names.length cm, .slice At s.subs.length ct]) wo ⟨_, rfl, hs7⟩)
    have RL : Hid (L0 ++ locL (t.subs.take (k + 1)) = L0 ++ locL (t.subs.take k) ++ locT s) := Lib.hid (by rw [locL_take _ _ _ hs, List.append_assoc])
    have hlen := HLN.out (k + 1)
    rw [RL.out, List.length_append] at hlen
    have hk0 : (0 : Int) ≤ k := by omega
    have hk1 : (k : Int) < q := by omega
    clear hs7 hs
    go_wp2_with fail
    refine IH.out.mono ?_; rintro e w4 ⟨v', rfl, ho4, hb4⟩
    have hs4 := hb4.size
    have O4 := HO.out.keep (w' := w4) (fun b _ h => hb4.block b h)
    have HB4 : Hid (Below W1.heap.size W1 w4) := Lib.hid (below_over HBo.out hb4)
    obtain ⟨L, hL⟩ : ∃ L, L = L0 ++ locL (t.subs.take k) := ⟨_, rfl⟩
    obtain ⟨P, hP⟩ : ∃ P, P = locT s := ⟨_, rfl⟩
    rw [← hL] at O4 hlen RL
    rw [← hP] at ho4 hlen RL
    clear h0 h1 h2 h3 h4 h5 h6 y6 IH HO hL hP hb4
    obtain ⟨C4, c4l, c47, c4o, c4e⟩ := O4
    obtain ⟨D4, d4l, d47, d4o, d4e⟩ := ho4
    have hone : ∀ u ∈ D4.flatten, u.oneCell' = true := fun u hu => by
     obtain ⟨l, hl, hu⟩ := List.mem_flatten.1 hu
     obtain ⟨i, hi⟩ := List.mem_iff_getElem?.1 hl
     have hil := (List.getElem?_eq_some_iff.1 hi).1
     exact (d4e i l _ hi (List.getElem?_eq_getElem (by omega))).one u hu
    have hMX : L.length + P.length ≤ maxLen := by unfold maxLen; omega
    go_wp2_with (at_builtin; go_loud (refine wpList_append_rows rfl _ _ 28 rfl W1.heap.size wo.heap.size 30 i0 _ 7 112 Tryz.underlying28 hi hz0 hz1 hz2 rfl (by decide) v3 L.length C4.flatten rfl c4o v' P.length D4.flatten rfl d4o hone hMX (by omega) HB4.out.size ?_))
    intro v5 w5 hown hgrow
    have FIN : Hid (OwnL w5 W1.heap.size v5 (L0 ++ locL (t.subs.take (k + 1)))) := Lib.hid (by
     rw [RL.out]
     exact OwnL.joined c4l c47 c4e d4l d47 d4e hown)
    have FB : Hid (Below W1.heap.size W1 w5) := Lib.hid (below_grown HB4.out HB4.out.size c4o hgrow)
    clear hown hgrow
    go_wp2_with fail
    go_roundw
    case rel => exact ⟨k + 1, v5, rfl, by omega, by go_num, FIN, FB⟩
    case measure => simp [intOf]; omega
   ·obtain rfl : k = q := by omega
    have hfull : t.subs.take k = t.subs := List.take_of_length_le (by rw [← HQ.out]; exact Nat.le_refl _)
    have FIN : Hid (OwnL wo w.heap.size v3 (locT t)) := Lib.hid (by rw [RS.out, ← hfull]; exact HO.out.mono (by omega))
    have FB := Lib.hid (HB.out.trans (HBo.out.mono HB.out.size))
    clear HO
    go_wp2_with fail
    go_ret
    exact ⟨_, rfl, FIN.out, FB.out⟩
 ·have q8 : (t.kind == 8) = false := by simpa using hk
  rw [if_neg hk] at hL0
  clear hk
  have START : Hid (OwnL W1 W1.heap.size (.slice none 0 0) (L0 ++ locL (t.subs.take 0))) := Lib.hid (by rw [hL0]; exact OwnL.nil _ _)
  have STARTB : Hid (Below W1.heap.size W1 W1) := Lib.hid (Below.refl _ _)
  go_enter Tryz.func39, Tryz.ntmps39
  go_upto_region 2 with fail
  rw [← HW1.out]
  go_wp2_with fail
  clear y0 y1 y2 y3 y4 y5 y6 q8 hL0
  go_loopw [3, 4] (fun s3 iv wr => ∃ (k : Nat) (v3 : Value), v3 = s3 ∧ k ≤ q ∧ iv = .int .i64 k ∧ Hid (OwnL wr W1.heap.size v3 (L0 ++ locL (t.subs.take k))) ∧ Hid (Below W1.heap.size W1 wr)) (fun _ iv _ => q - (intOf iv).toNat)
  case atStart => exact ⟨0, _, rfl, by omega, rfl, START, STARTB⟩
  case round =>
   obtain ⟨k, v3, rfl, hkq, rfl, HO, HBo⟩ := hrel
   obtain ⟨wo, rfl⟩ : ∃ wo : World, wo = wr := ⟨_, rfl⟩
   have hl1 := Nat.lt_of_lt_of_le hlo HBo.out.size
   have y6 := Lib.cell_of_heap ((HBo.out.block w.heap.size hlo).trans HX1.out) 6
   simp at y6
   rw [← HQ.out] at y6
   by_cases hlt : k < q
   ·obtain ⟨s, hs⟩ : ∃ s, t.subs[k]? = some s := ⟨_, List.getElem?_eq_getElem (by rw [← HQ.out]; exact hlt)⟩
    obtain ⟨g, o, v0, v1, v2, v3', v4, v5, v6, rfl, hg, h0, h1, h2, h3, h4, h5, h6, hs7⟩ := HS.out.below HBo.out k s hs
    obtain ⟨Am, cm, At, ct, rfl, rfl, rfl, rfl, rfl, rfl, rfl⟩ := hs7.seven
    have IH := Lib.hid (ih s (HMN.out s (List.mem_of_getElem? hs)).1 (HMN.out s (List.mem_of_getElem? hs)).2 (.agg #[.int .i64 s.kind, .string s.pkg, .int .i64 s.major, .string s.mod, .string s.name, .slice Am s.names.length cm, .slice At s.subs.length ct]) wo ⟨_, rfl, hs7⟩)
    have RL : Hid (L0 ++ locL (t.subs.take (k + 1)) = L0 ++ locL (t.subs.take k) ++ locT s) := Lib.hid (by rw [locL_take _ _ _ hs, List.append_assoc])
    have hlen := HLN.out (k + 1)
    rw [RL.out, List.length_append] at hlen
    have hk0 : (0 : Int) ≤ k := by omega
    have hk1 : (k : Int) < q := by omega
    clear hs7 hs
    go_wp2_with fail
    refine IH.out.mono ?_; rintro e w4 ⟨v', rfl, ho4, hb4⟩
    have hs4 := hb4.size
    have O4 := HO.out.keep (w' := w4) (fun b _ h => hb4.block b h)
    have HB4 : Hid (Below W1.heap.size W1 w4) := Lib.hid (below_over HBo.out hb4)
    obtain ⟨L, hL⟩ : ∃ L, L = L0 ++ locL (t.subs.take k) := ⟨_, rfl⟩
    obtain ⟨P, hP⟩ : ∃ P, P = locT s := ⟨_, rfl⟩
    rw [← hL] at O4 hlen RL
    rw [← hP] at ho4 hlen RL
    clear h0 h1 h2 h3 h4 h5 h6 y6 IH HO hL hP hb4
    obtain ⟨C4, c4l, c47, c4o, c4e⟩ := O4
    obtain ⟨D4, d4l, d47, d4o, d4e⟩ := ho4
    have hone : ∀ u ∈ D4.flatten, u.oneCell' = true := fun u hu => by
     obtain ⟨l, hl, hu⟩ := List.mem_flatten.1 hu
     obtain ⟨i, hi⟩ := List.mem_iff_getElem?.1 hl
     have hil := (List.getElem?_eq_some_iff.1 hi).1
     exact (d4e i l _ hi (List.getElem?_eq_getElem (by omega))).one u hu
    have hMX : L.length + P.length ≤ maxLen := by unfold maxLen; omega
    go_wp2_with (at_builtin; go_loud (refine wpList_append_rows rfl _ _ 28 rfl W1.heap.size wo.heap.size 30 i0 _ 7 112 Tryz.underlying28 hi hz0 hz1 hz2 rfl (by decide) v3 L.length C4.flatten rfl c4o v' P.length D4.flatten rfl d4o hone hMX (by omega) HB4.out.size ?_))
    intro v5 w5 hown hgrow
    have FIN : Hid (OwnL w5 W1.heap.size v5 (L0 ++ locL (t.subs.take (k + 1)))) := Lib.hid (by
     rw [RL.out]
     exact OwnL.joined c4l c47 c4e d4l d47 d4e hown)
    have FB : Hid (Below W1.heap.size W1 w5) := Lib.hid (below_grown HB4.out HB4.out.size c4o hgrow)
    clear hown hgrow
    go_wp2_with fail
    go_roundw
    case rel => exact ⟨k + 1, v5, rfl, by omega, by go_num, FIN, FB⟩
    case measure => simp [intOf]; omega
   ·obtain rfl : k = q := by omega
    have hfull : t.subs.take k = t.subs := List.take_of_length_le (by rw [← HQ.out]; exact Nat.le_refl _)
    have FIN : Hid (OwnL wo w.heap.size v3 (locT t)) := Lib.hid (by rw [RS.out, ← hfull]; exact HO.out.mono (by omega))
    have FB := Lib.hid (HB.out.trans (HBo.out.mono HB.out.size))
    clear HO
    go_wp2_with fail
    go_ret
    exact ⟨_, rfl, FIN.out, FB.out⟩
end Go.Proofs.YtkgmdbkcldojnaaGreatDoor
