/-
  Several texts in one: The walk of the reference's Copy of modules. · The walk of SyntaxBack: whatever module and whatever text are handed in.
-/
import Derived.Test.YtpfoclpgcbjjoaaGreatDoorJ19
import Derived.Test.YtpfoclpgcbjjoaaGreatDoorJ17
import Derived.Test.YtpfoclpgcbjjoaaGreatDoorJ28
import Derived.Test.YtpfoclpgcbjjoaaGreatDoorJ16
import Derived.Test.YtpfoclpgcbjjoaaGreatDoorJ18
import Derived.Test.YtpfoclpgcbjjoaaGreatDoorJ25
/- The walk of the reference's Copy of modules. -/
namespace Go.Proofs.YtpfoclpgcbjjoaaGreatDoor
open Go.RowKit
open Go.Sort
open M

/-- Imports in cells of their own. -/
theorem row_imps {w : World} {lo c : Nat} {A : Option Addr} {xs : List Im} (hown : w.ownsRow lo 67 4 (.slice A xs.length c) xs.length (xs.map imL).flatten)
    (hz : ∀ x ∈ xs, x.pkg.size ≤ 9223372036854775807 ∧ x.mod.size ≤ 9223372036854775807 ∧ x.asn.size ≤ 9223372036854775807) : Row imR lo xs A c w :=
  ⟨xs.map imL, by simp, hown, fun i l x hl hx => by
    rw [List.getElem?_map, hx] at hl
    simp at hl
    exact ⟨hl.symm, hz x (List.mem_of_getElem? hx)⟩⟩
theorem imps_flat (xs : List Im) : (xs.map imL).flatten.length = xs.length * 4 := by
  induction xs with
  | nil => rfl
  | cons x xs ih => simp only [List.map_cons, List.flatten_cons, List.length_append, ih, List.length_cons]; simp [imL]; omega

/-- What stands when the imports have been copied. -/
structure Cq1 (w : World) (m : Mo) (Ai : Option Addr) (ci : Nat) (Ad : Option Addr) (nd cd : Nat) (wr : World) : Prop where
  below : Below w.heap.size w wr
  box : Mx w.heap.size m.name Ai m.imps.length ci Ad nd cd wr
  res : Mx (w.heap.size + 1) ⟨#[]⟩ none 0 0 none 0 0 wr
  row : Row imR (w.heap.size + 2) m.imps Ai ci wr
/-- What has been copied so far. -/
structure Cq (w : World) (l2 : Nat) (m : Mo) (Ai : Option Addr) (ci : Nat) (xs : List De) (Ad : Option Addr) (cd : Nat) (wr : World) : Prop where
  below : Below w.heap.size w wr
  box : Mx w.heap.size m.name Ai m.imps.length ci Ad xs.length cd wr
  res : Mx (w.heap.size + 1) ⟨#[]⟩ none 0 0 none 0 0 wr
  ims : RowIn imR (strike (fun b => b < w.heap.size + 2 ∨ l2 ≤ b) wr) Ai m.imps
  rows : Row deR l2 xs Ad cd wr
  lole : l2 ≤ wr.heap.size
theorem Cq1.made {w w4 : World} {m : Mo} {A0 Ai Ad : Option Addr} {n0 c0 ci nd cd : Nat} (hb : Below w.heap.size w w4) (hbox : Mx w.heap.size m.name A0 n0 c0 Ad nd cd w4) (hres : Mx (w.heap.size + 1) ⟨#[]⟩ none 0 0 none 0 0 w4) (hrow : Row imR (w.heap.size + 2) m.imps Ai ci w4) :
    Cq1 w m Ai ci Ad nd cd (w4.setCell ⟨w.heap.size, 1, none⟩ (.slice Ai m.imps.length ci)) := by
  have ot : ∀ b, b ≠ w.heap.size → (w4.setCell ⟨w.heap.size, 1, none⟩ (.slice Ai m.imps.length ci)).heap[b]? = w4.heap[b]? := fun b h => Below.heap_setCell _ _ _ _ (by show b ≠ w.heap.size; exact h)
  refine ⟨hb.setCell (Nat.le_refl _) _, ?_, (ot _ (by omega)).trans hres, hrow.keep (by simp) (fun b h _ => ot b (by omega))⟩
  have := Joins.block_setCell (i := 1) hbox (.slice Ai m.imps.length ci)
  simpa [Mx] using this
theorem Cq1.empty (w : World) (m : Mo) (Ad : Option Addr) (nd cd : Nat) (h0 : m.imps = []) :
    Cq1 w m (some ⟨w.heap.size + 1 + 1, 0, none⟩) 0 Ad nd cd (((w.alloc (.cells #[.string m.name, .slice (some ⟨w.heap.size + 1 + 1, 0, none⟩) 0 0, .slice Ad nd cd] 25)).alloc (.cells #[.string ⟨#[]⟩, .slice none 0 0, .slice none 0 0] 25)).alloc (.cells #[] 67)) := by
  have e1 : (w.alloc (.cells #[.string m.name, .slice (some ⟨w.heap.size + 1 + 1, 0, none⟩) 0 0, .slice Ad nd cd] 25)).heap.size = w.heap.size + 1 := by simp
  have e2 : ((w.alloc (.cells #[.string m.name, .slice (some ⟨w.heap.size + 1 + 1, 0, none⟩) 0 0, .slice Ad nd cd] 25)).alloc (.cells #[.string ⟨#[]⟩, .slice none 0 0, .slice none 0 0] 25)).heap.size = w.heap.size + 1 + 1 := by simp
  have hl : m.imps.length = 0 := by rw [h0]; rfl
  refine ⟨below_new (below_new (below_new (Below.refl _ _) _) _) _, ?_, ?_, row_imps ?_ (by rw [h0]; intro x hx; cases hx)⟩
  · unfold Mx
    rw [hl, Lib.alloc_old _ _ _ (by rw [e2]; omega), Lib.alloc_old _ _ _ (by rw [e1]; omega)]; exact heap_alloc_new w _
  · unfold Mx
    rw [Lib.alloc_old _ _ _ (by rw [e2]; omega)]
    have := heap_alloc_new (w.alloc (.cells #[.string m.name, .slice (some ⟨w.heap.size + 1 + 1, 0, none⟩) 0 0, .slice Ad nd cd] 25)) (.cells #[.string ⟨#[]⟩, .slice none 0 0, .slice none 0 0] 25)
    rw [e1] at this
    exact this
  · have := World.ownsRow_lit (base := w.heap.size + 2) (e := 67) (size := 4) ((w.alloc (.cells #[.string m.name, .slice (some ⟨w.heap.size + 1 + 1, 0, none⟩) 0 0, .slice Ad nd cd] 25)).alloc (.cells #[.string ⟨#[]⟩, .slice none 0 0, .slice none 0 0] 25)) #[] 0 (by rw [e2]; omega) (by decide) rfl
    rw [e2] at this
    rw [h0]
    exact this
theorem Cq1.start {w wr : World} {m : Mo} {Ai Ad : Option Addr} {ci nd cd : Nat} (h : Cq1 w m Ai ci Ad nd cd wr) : Cq w wr.heap.size m Ai ci [] none 0 (wr.setCell ⟨w.heap.size, 2, none⟩ (.slice none 0 0)) := by
  have ot : ∀ b, b ≠ w.heap.size → (wr.setCell ⟨w.heap.size, 2, none⟩ (.slice none 0 0)).heap[b]? = wr.heap[b]? := fun b h => Below.heap_setCell _ _ _ _ (by show b ≠ w.heap.size; exact h)
  refine ⟨h.below.setCell (Nat.le_refl _) _, ?_, (ot _ (by omega)).trans h.res, (h.row.done (Nat.le_refl _)).move (by simp) (fun b hb hS => ⟨by omega, ot b (by omega)⟩), Row.start _ _ _, by simp⟩
  have := Joins.block_setCell (i := 2) h.box (.slice none 0 0)
  simpa [Mx] using this

theorem Cq1.start' {w wr : World} {m : Mo} {Ai Ad : Option Addr} {ci nd cd : Nat} (h : Cq1 w m Ai ci Ad nd cd wr) : ∃ l2, w.heap.size + 2 ≤ l2 ∧ Hid (Cq w l2 m Ai ci [] none 0 (wr.setCell ⟨w.heap.size, 2, none⟩ (.slice none 0 0))) :=
  ⟨_, (Array.getElem?_eq_some_iff.1 h.res).1, Lib.hid h.start⟩
theorem own_slice {w : World} {base : Nat} {e : TypeId} {z : Nat} {v : Value} {n : Nat} {xs : List Value} (h : w.ownsRow base e z v n xs) : ∃ A c, v = .slice A n c := by
  rcases h.2 with ⟨rfl, h0⟩ | ⟨g, cap, cur, rfl, -⟩
  · exact ⟨none, 0, by rw [h0]⟩
  · exact ⟨_, _, rfl⟩
theorem below_cells7 {w a : World} {n : Nat} (h : Below n w a) {l : List Value} (hl : l.length = 7) {g : Nat} (hg : n ≤ g) : Below n w (a.setCells g 2 l) := by
  obtain ⟨v0, v1, v2, v3, v4, v5, v6, rfl⟩ := list7 l hl
  rw [setCells7]
  exact ((((((h.setCell hg _).setCell hg _).setCell hg _).setCell hg _).setCell hg _).setCell hg _).setCell hg _
/-- A world that has what lay. -/
theorem Cq.keep {w wo wa : World} {l2 : Nat} {m : Mo} {Ai : Option Addr} {ci : Nat} {xs : List De} {Ad : Option Addr} {cd : Nat} (h : Cq w l2 m Ai ci xs Ad cd wo) (hb : Below wo.heap.size wo wa) : Cq w l2 m Ai ci xs Ad cd wa := by
  have h0 := (Array.getElem?_eq_some_iff.1 h.box).1
  have h1 := (Array.getElem?_eq_some_iff.1 h.res).1
  exact ⟨below_over h.below hb, (hb.block _ h0).trans h.box, (hb.block _ h1).trans h.res, h.ims.move hb.size (fun b hlt hS => ⟨hS, hb.block b hlt⟩), h.rows.keep hb.size (fun b _ hlt => hb.block b hlt), Nat.le_trans h.lole hb.size⟩

set_option maxRecDepth 100000 in
set_option maxHeartbeats 8000000 in
theorem copy6_any (m : Mo) (l : List Value) (w : World) (h : MoAt w l m) (hI : m.imps.length ≤ 100000) (hN : m.decs.length ≤ 100000) (hM : ∀ d ∈ m.decs, many d.typ ≤ 9000 ∧ shortT d.typ) :
    Calls Tryz.prog 14 #[.agg l.toArray] w fun e w' => ∃ l' : List Value, e = .returned (.agg l'.toArray) ∧ MoAt w' l' m ∧ Below w.heap.size w w' := by
  obtain ⟨An, cn, Ad, cd, rfl, z1, z2, z3, hIm, hDe⟩ := h
  have HZ : Hid (∀ x ∈ m.imps, x.pkg.size ≤ 9223372036854775807 ∧ x.mod.size ≤ 9223372036854775807 ∧ x.asn.size ≤ 9223372036854775807) := Lib.hid (fun x hx => by
    obtain ⟨i, hi⟩ := List.getElem?_of_mem hx
    obtain ⟨g, o, l, -, -, -, hE⟩ := hIm i x hi
    exact hE.2)
  obtain ⟨W3, hW3⟩ : ∃ W3, W3 = ((w.alloc (.cells #[.string m.name, .slice An m.imps.length cn, .slice Ad m.decs.length cd] 25)).alloc (.cells #[.string ⟨#[]⟩, .slice none 0 0, .slice none 0 0] 25)).alloc (.cells #[] 67) := ⟨_, rfl⟩
  have e1 : (w.alloc (.cells #[.string m.name, .slice An m.imps.length cn, .slice Ad m.decs.length cd] 25)).heap.size = w.heap.size + 1 := by simp
  have e2 : ((w.alloc (.cells #[.string m.name, .slice An m.imps.length cn, .slice Ad m.decs.length cd] 25)).alloc (.cells #[.string ⟨#[]⟩, .slice none 0 0, .slice none 0 0] 25)).heap.size = w.heap.size + 1 + 1 := by simp
  have B3 : Hid (Below w.heap.size w W3) := Lib.hid (by rw [hW3]; exact below_new (below_new (below_new (Below.refl _ _) _) _) _)
  have X3 : Hid (Mx w.heap.size m.name An m.imps.length cn Ad m.decs.length cd W3) := Lib.hid (by
    show W3.heap[w.heap.size]? = _
    rw [hW3, Lib.alloc_old _ _ _ (by rw [e2]; omega), Lib.alloc_old _ _ _ (by rw [e1]; omega)]; exact heap_alloc_new w _)
  have R3 : Hid (Mx (w.heap.size + 1) ⟨#[]⟩ none 0 0 none 0 0 W3) := Lib.hid (by
    show W3.heap[w.heap.size + 1]? = _
    rw [hW3, Lib.alloc_old _ _ _ (by rw [e2]; omega), ← e1]; exact heap_alloc_new _ _)
  have O3 : Hid (W3.ownsRow (w.heap.size + 2) 67 4 (.slice (some ⟨w.heap.size + 1 + 1, 0, none⟩) 0 0) 0 []) := Lib.hid (by
    rw [hW3]
    have := World.ownsRow_lit (base := w.heap.size + 2) (e := 67) (size := 4) ((w.alloc (.cells #[.string m.name, .slice An m.imps.length cn, .slice Ad m.decs.length cd] 25)).alloc (.cells #[.string ⟨#[]⟩, .slice none 0 0, .slice none 0 0] 25)) #[] 0 (by rw [e2]; omega) (by decide) rfl
    rw [e2] at this
    exact this)
  have s3 : w.heap.size + 2 ≤ W3.heap.size := by rw [hW3]; simp
  have HIM := Lib.hid (hIm.below B3.out)
  have HDE := Lib.hid hDe
  have HB3 := B3
  have HW3 := Lib.hid hW3
  have HM := Lib.hid hM
  clear hW3 hIm hDe e1 e2 hM
  obtain ⟨nd, hnd⟩ : ∃ nd, nd = m.decs.length := ⟨_, rfl⟩
  rw [← hnd] at HW3 X3 hN z3
  have HND := Lib.hid hnd
  rw [← hnd]
  clear hnd
  obtain ⟨i0, hi, hz0, hz1, hz2⟩ := info_parts imp_info
  go_enter Tryz.func14, Tryz.ntmps14
  go_upto_region 1 with fail
  go_cut [9] (fun s9 wx => ∃ (Ai : Option Addr) (ci : Nat), Cq1 w m Ai ci Ad nd cd wx)
  case first =>
    cases An with
    | none =>
      have hn0 : m.imps = [] := by
        cases hm : m.imps with
        | nil => rfl
        | cons x r =>
          obtain ⟨g, o, l, e, -⟩ := HIM.out 0 x (by rw [hm]; rfl)
          cases e
      have MADE := Lib.hid (Cq1.empty w m Ad nd cd hn0)
      have hlen0 : m.imps.length = 0 := by rw [hn0]; rfl
      clear hn0
      go_wp2_with fail
      go_meet
      exact ⟨_, _, MADE.out⟩
    | some ad =>
      have own0 := O3.out
      have hnews : ∀ j u, (m.imps.map imL).flatten[j]? = some u → W3.cell? (ad.add j) = some u := by
        intro j u hj
        have hlt := (List.getElem?_eq_some_iff.1 hj).1
        rw [imps_flat] at hlt
        have hx : m.imps[j / 4]? = some m.imps[j / 4] := List.getElem?_eq_getElem (by omega)
        obtain ⟨g, o, l, e, hg, hc, hE⟩ := HIM.out _ _ hx
        obtain rfl := Option.some.inj e
        rw [WideShapes.add_plain]
        have hl : (m.imps.map imL)[j / 4]? = some (imL m.imps[j / 4]) := by rw [List.getElem?_map, hx]; rfl
        have hf := flatk_at (k := 4) (m.imps.map imL) (fun l hl => by obtain ⟨x, -, rfl⟩ := List.mem_map.1 hl; rfl) (j / 4) (j % 4) _ hl (by omega)
        rw [show j / 4 * 4 + j % 4 = j by omega, hj] at hf
        have := hc (j % 4) u (by rw [hE.1]; exact hf.symm)
        rw [show o + j / 4 * imR.k + j % 4 = o + j by show o + j / 4 * 4 + j % 4 = o + j; omega] at this
        exact this
      have hone : ∀ u ∈ (m.imps.map imL).flatten, u.oneCell' = true := by
        intro u hu
        obtain ⟨l, hl, hu⟩ := List.mem_flatten.1 hu
        obtain ⟨x, -, rfl⟩ := List.mem_map.1 hl
        simp [imL] at hu
        rcases hu with rfl | rfl | rfl | rfl <;> rfl
      have hbase := s3
      rw [HW3.out] at own0 hnews hbase
      have hfl := imps_flat m.imps
      go_wp2_with (at_builtin; refine wpList_append_own_at _ rfl _ _ 22 rfl (w.heap.size + 2) 67 i0 _ 4 56 Tryz.underlying22 hi hz0 hz1 hz2 rfl (by decide) _ 0 [] rfl own0 ad m.imps.length cn (m.imps.map imL).flatten rfl ?c0 hnews hone ?c3 ?c4 hbase ?_)
      case c0 => exact hfl
      case c3 => unfold maxLen; omega
      case c4 => omega
      intro v5 w4 hown hgrow _ hat
      rw [← HW3.out] at hgrow
      have hown2 : w4.ownsRow (w.heap.size + 2) 67 4 v5 m.imps.length (m.imps.map imL).flatten := by first | exact hown | simpa using hown
      clear hown
      obtain ⟨A5, c5, rfl⟩ := own_slice hown2
      have b4 : Mx w.heap.size m.name (some ad) m.imps.length cn Ad nd cd w4 := (hgrow.block w.heap.size (by omega) (by simp [Value.ownBlock]; omega)).trans X3.out
      have r4 : Mx (w.heap.size + 1) ⟨#[]⟩ none 0 0 none 0 0 w4 := (hgrow.block (w.heap.size + 1) (by omega) (by simp [Value.ownBlock])).trans R3.out
      have B4 : Below w.heap.size w w4 := B3.out.trans ⟨hgrow.os, hgrow.tape, hgrow.output, hgrow.size, fun b hb => hgrow.block b (by omega) (by simp [Value.ownBlock]; omega)⟩
      have MD := Lib.hid (Cq1.made B4 b4 r4 (row_imps hown2 HZ.out))
      have x1 := Lib.cell_of_heap b4 1
      have f1 := Lib.frozen_of_heap b4 1
      simp at x1
      clear hgrow hown2 hat b4 r4 B4 hnews hbase own0
      go_wp2_with fail
      go_meet
      exact ⟨_, _, MD.out⟩
  case rest =>
    obtain ⟨Ai, ci, h1⟩ := hcut
    have x2 := Lib.cell_of_heap h1.box 2
    have f2 := Lib.frozen_of_heap h1.box 2
    simp at x2
    obtain ⟨l2, hl2, START⟩ := h1.start'
    clear h1 B3 X3 R3 O3 HW3 HIM
    go_wp2_with fail
    clear x2 f2
    go_loopw [4] (fun iv wr => ∃ (xs : List De) (A6 : Option Addr) (c6 : Nat), xs.length ≤ nd ∧ iv = .int .i64 xs.length ∧ Hid (xs = m.decs.take xs.length) ∧ Hid (Cq w l2 m Ai ci xs A6 c6 wr)) (fun iv _ => nd - (intOf iv).toNat)
    case atStart => exact ⟨[], none, 0, by simp, rfl, Lib.hid rfl, START⟩
    case round =>
      obtain ⟨xs, A6, c6, hj, rfl, HXS, HC⟩ := hrel
      obtain ⟨wo, rfl⟩ : ∃ wo : World, wo = wr := ⟨_, rfl⟩
      have hkl : w.heap.size + 1 < wo.heap.size := (Array.getElem?_eq_some_iff.1 HC.out.res).1
      clear START
      by_cases hlt : xs.length < nd
      · obtain ⟨x, hx⟩ : ∃ x, m.decs[xs.length]? = some x := ⟨_, List.getElem?_eq_getElem (by rw [← HND.out]; exact hlt)⟩
        obtain ⟨g, o, v0, v1, v2, v3, v4, v5, v6, rfl, hg, a0, a1, u0, u1, u2, u3, u4, u5, u6, us, zs⟩ := RowIn.de (HDE.out.below HC.out.below) hx
        obtain ⟨Bn, cB, Bs, dB, ev, -⟩ := us.parts
        simp only [List.cons.injEq, and_true] at ev
        obtain ⟨rfl, rfl, rfl, rfl, rfl, rfl, rfl⟩ := ev
        obtain ⟨w8, hw8⟩ : ∃ w8, w8 = wo.alloc (.cells #[.int .i64 x.kind, .string x.name, .int .i64 x.typ.kind, .string x.typ.pkg, .int .i64 x.typ.major, .string x.typ.mod, .string x.typ.name, .slice Bn x.typ.names.length cB, .slice Bs x.typ.subs.length dB] 52) := ⟨_, rfl⟩
        have B8 : Below wo.heap.size wo w8 := by rw [hw8]; exact below_new (Below.refl _ _) _
        have Y8 : Dx wo.heap.size x.kind x.name [.int .i64 x.typ.kind, .string x.typ.pkg, .int .i64 x.typ.major, .string x.typ.mod, .string x.typ.name, .slice Bn x.typ.names.length cB, .slice Bs x.typ.subs.length dB] w8 := by rw [hw8]; exact heap_alloc_new wo _
        have s8 : w8.heap.size = wo.heap.size + 1 := by rw [hw8]; simp
        have CPY := Lib.hid (copy_any _ x.typ (Nat.le_refl _) (HM.out x (List.mem_of_getElem? hx)).1 (HM.out x (List.mem_of_getElem? hx)).2 (.agg #[.int .i64 x.typ.kind, .string x.typ.pkg, .int .i64 x.typ.major, .string x.typ.mod, .string x.typ.name, .slice Bn x.typ.names.length cB, .slice Bs x.typ.subs.length dB]) w8 (TyV.below ⟨_, rfl, us⟩ B8))
        have HU : Hid (w8.cell? ⟨g, o + xs.length * 9 + 2, none⟩ = some (.int .i64 x.typ.kind) ∧ w8.cell? ⟨g, o + xs.length * 9 + 2 + 1, none⟩ = some (.string x.typ.pkg) ∧ w8.cell? ⟨g, o + xs.length * 9 + 2 + 2, none⟩ = some (.int .i64 x.typ.major) ∧ w8.cell? ⟨g, o + xs.length * 9 + 2 + 3, none⟩ = some (.string x.typ.mod) ∧ w8.cell? ⟨g, o + xs.length * 9 + 2 + 4, none⟩ = some (.string x.typ.name) ∧ w8.cell? ⟨g, o + xs.length * 9 + 2 + 5, none⟩ = some (.slice Bn x.typ.names.length cB) ∧ w8.cell? ⟨g, o + xs.length * 9 + 2 + 6, none⟩ = some (.slice Bs x.typ.subs.length dB)) := Lib.hid
          ⟨(B8.cell (p := ⟨g, _, none⟩) hg).trans u0, (B8.cell (p := ⟨g, _, none⟩) hg).trans u1, (B8.cell (p := ⟨g, _, none⟩) hg).trans u2, (B8.cell (p := ⟨g, _, none⟩) hg).trans u3, (B8.cell (p := ⟨g, _, none⟩) hg).trans u4, (B8.cell (p := ⟨g, _, none⟩) hg).trans u5, (B8.cell (p := ⟨g, _, none⟩) hg).trans u6⟩
        have HY8 := Lib.hid Y8
        have HB8 := Lib.hid B8
        have HW8 := Lib.hid hw8
        have HX := Lib.hid hx
        clear hx us B8 Y8 hw8
        go_upto_region 8 with fail
        rw [← HW8.out]
        clear a0 a1 u0 u1 u2 u3 u4 u5 u6
        obtain ⟨u0, u1, u2, u3, u4, u5, u6⟩ := HU.out
        go_wp2_with fail
        refine CPY.out.mono ?_; rintro e w9 ⟨l1, rfl, hT9, hb9⟩
        obtain ⟨Cn, cC, Cs, dC, rfl, -⟩ := hT9.parts
        have hs9 := hb9.size
        have Y9 : Dx wo.heap.size x.kind x.name [.int .i64 x.typ.kind, .string x.typ.pkg, .int .i64 x.typ.major, .string x.typ.mod, .string x.typ.name, .slice Bn x.typ.names.length cB, .slice Bs x.typ.subs.length dB] w9 := (hb9.block _ (by omega)).trans HY8.out
        obtain ⟨wa, hwa⟩ : ∃ wa, wa = w9.setCells wo.heap.size 2 [.int .i64 x.typ.kind, .string x.typ.pkg, .int .i64 x.typ.major, .string x.typ.mod, .string x.typ.name, .slice Cn x.typ.names.length cC, .slice Cs x.typ.subs.length dC] := ⟨_, rfl⟩
        have Ya : Dx wo.heap.size x.kind x.name [.int .i64 x.typ.kind, .string x.typ.pkg, .int .i64 x.typ.major, .string x.typ.mod, .string x.typ.name, .slice Cn x.typ.names.length cC, .slice Cs x.typ.subs.length dC] wa := by rw [hwa]; exact Y9.put
        have oa : ∀ b, b ≠ wo.heap.size → wa.heap[b]? = w9.heap[b]? := fun b hb => by rw [hwa]; exact setCells7_other rfl hb
        have sa : wa.heap.size = w9.heap.size := by rw [hwa]; exact setCells7_size rfl
        have Ba : Below wo.heap.size wo wa := by rw [hwa]; exact below_cells7 (below_over HB8.out hb9) rfl (Nat.le_refl _)
        have Ca := Lib.hid (HC.out.keep Ba)
        have Ta : Hid (TyAt (strike (· < wo.heap.size + 1) wa) [.int .i64 x.typ.kind, .string x.typ.pkg, .int .i64 x.typ.major, .string x.typ.mod, .string x.typ.name, .slice Cn x.typ.names.length cC, .slice Cs x.typ.subs.length dC] x.typ) := Lib.hid (hT9.move (by omega) fun b hb hS => ⟨by omega, oa b (by omega)⟩)
        have TH := Y9.there
        have HWA := Lib.hid hwa
        have HYa := Lib.hid Ya
        have hsa : wo.heap.size + 1 ≤ wa.heap.size := by omega
        clear hwa Y9 Ya oa sa Ba hT9 hb9 CPY HY8 HB8 HW8 HU u0 u1 u2 u3 u4 u5 u6 hs9 s8
        go_upto_region 9 with (first | ((with_reducible refine wpList_putMid 42 wo.heap.size 2 #[.int .i64 x.typ.kind, .string x.typ.pkg, .int .i64 x.typ.major, .string x.typ.mod, .string x.typ.name, .slice Cn x.typ.names.length cC, .slice Cs x.typ.subs.length dC] ?_ ?_ ?_ ?_ ?_ ?_); exact TH; exact tySize; exact tyOne; rfl; rfl))
        rw [← HWA.out]
        clear TH HWA
        have Ya := HYa.out
        have x0 := Lib.cell_of_heap Ya 0
        have x1 := Lib.cell_of_heap Ya 1
        have x2 := Lib.cell_of_heap Ya 2
        have x3 := Lib.cell_of_heap Ya 3
        have x4 := Lib.cell_of_heap Ya 4
        have x5 := Lib.cell_of_heap Ya 5
        have x6 := Lib.cell_of_heap Ya 6
        have x7 := Lib.cell_of_heap Ya 7
        have x8 := Lib.cell_of_heap Ya 8
        simp at x0 x1 x2 x3 x4 x5 x6 x7 x8
        have y2 := Lib.cell_of_heap Ca.out.box 2
        simp at y2
        obtain ⟨C, hC1, hown, hC4⟩ := Ca.out.rows.cells
        obtain ⟨inf, hi1', hy0, hy1, hy2⟩ := info_parts dec_info
        have hMX : xs.length + 1 ≤ maxLen := by unfold maxLen; omega
        have hwo : ∀ b, (Value.slice A6 xs.length c6).ownBlock = some b → b < wo.heap.size + 1 := fun b e => by have := (HC.out.rows.lt e).2; omega
        have hl2' := HC.out.lole
        have hAL : ∀ oo, l2 ≤ (wa.alloc oo).heap.size := fun oo => by have e1 : (wa.alloc oo).heap.size = wa.heap.size + 1 := (by simp); omega
        clear Ya
        go_wp2_with (first | (refine wpList_append_lies _ rfl (.tmp 32) (.tmp 34) 23 rfl l2 52 inf _ 9 136 Tryz.underlying23 hi1' hy0 hy1 hy2 (by rfl) (Nat.zero_lt_succ 8) (.slice A6 xs.length c6) xs.length _ rfl (hown.alloc _) ⟨wa.heap.size, 0, none⟩ 1 1 [.int .i64 x.kind, .string x.name, .int .i64 x.typ.kind, .string x.typ.pkg, .int .i64 x.typ.major, .string x.typ.mod, .string x.typ.name, .slice Cn x.typ.names.length cC, .slice Cs x.typ.subs.length dC] rfl rfl (fun q u hq => by rw [WideShapes.add_plain, Nat.zero_add, Lib.cell_of_heap (heap_alloc_new wa _), ← hq, ← List.getElem?_toArray]) (fun u hu => by simp at hu; rcases hu with rfl | rfl | rfl | rfl | rfl | rfl | rfl | rfl | rfl <;> rfl) Nat.one_pos hMX (by omega) (hAL _) _ rfl ?_; intro gb cap w5 hown5 hgrow hat hlt5; obtain ⟨ROW9, Y9, old9, bel9, z9, e9, hs9⟩ := row_more (R := deR) (x := x) (k := 2) Ca.out.rows (B := wo.heap.size + 1) (by omega) hsa hwo hC1 hC4 ⟨zs, _, rfl, Ta.out⟩ hown5 hgrow hat (by omega) Ca.out.box rfl; clear hown5 hgrow hat hlt5))
        have hlen9 : (xs ++ [x]).length = xs.length + 1 := by simp
        have INV9 : Hid (Cq w l2 m Ai ci (xs ++ [x]) (some ⟨gb, 0, none⟩) cap (w5.setCell ⟨w.heap.size, 2, none⟩ (.slice (some ⟨gb, 0, none⟩) (xs.length + 1) cap))) := Lib.hid
          ⟨Ca.out.below.trans (bel9 _ (Nat.le_refl _)), by rw [hlen9]; exact Y9, (old9 _ (by omega) (by omega)).trans Ca.out.res, Ca.out.ims.move hs9 (fun b hb hS => ⟨hS, old9 b (by omega) (by omega)⟩), ROW9, by have := Ca.out.lole; omega⟩
        have XS9 : Hid (xs ++ [x] = m.decs.take (xs ++ [x]).length) := Lib.hid (by rw [hlen9, List.take_add_one, HX.out, ← HXS.out]; rfl)
        clear ROW9 Y9 old9 bel9 z9 e9 hs9 hC1 hown hC4 hi1' hy0 hy1 hy2 hMX hwo hAL
        go_wp2_with fail
        go_roundw
        case rel => exact ⟨xs ++ [x], some ⟨gb, 0, none⟩, cap, by omega, by rw [hlen9]; go_num, XS9, INV9⟩
        case measure => simp [intOf]; omega
      · have hxs : xs = m.decs := by
          have h := HXS.out
          rw [h, List.take_of_length_le (by rw [← HND.out]; omega)]
        obtain ⟨R, hR⟩ : ∃ R, R = m.decs := ⟨_, rfl⟩
        have y0 := Lib.cell_of_heap HC.out.box 0
        have y1 := Lib.cell_of_heap HC.out.box 1
        have y2 := Lib.cell_of_heap HC.out.box 2
        simp at y0 y1 y2
        have X9 : wo.heap[w.heap.size + 1]? = some (.cells #[.string ⟨#[]⟩, .slice none 0 0, .slice none 0 0] 25 (0, 0)) := HC.out.res
        have mv : ∀ b, b ≠ w.heap.size + 1 → (wo.setRow (w.heap.size + 1) #[.string m.name, .slice Ai m.imps.length ci, .slice A6 xs.length c6]).heap[b]? = wo.heap[b]? := fun b hb => setRow_other wo (w.heap.size + 1) b _ hb
        have FIN : Hid (MoAt (wo.setRow (w.heap.size + 1) #[.string m.name, .slice Ai m.imps.length ci, .slice A6 xs.length c6]) [.string m.name, .slice Ai m.imps.length ci, .slice A6 xs.length c6] m) := Lib.hid
          ⟨Ai, ci, A6, c6, by rw [← hxs], z1, by omega, by rw [← hxs]; omega,
            (HC.out.ims.move (S' := fun b => b < w.heap.size + 2) (by simp) fun b hb hS => ⟨fun e => hS (.inl e), mv b (fun e => hS (.inl (by omega)))⟩).free,
            by rw [← hxs]; exact ((HC.out.rows.done (Nat.le_refl _)).move (S' := fun b => b < l2) (by simp) fun b hb hS => ⟨hS, mv b (by omega)⟩).free⟩
        have FB : Hid (Below w.heap.size w (wo.setRow (w.heap.size + 1) #[.string m.name, .slice Ai m.imps.length ci, .slice A6 xs.length c6])) := Lib.hid (setRow_below HC.out.below (by omega) _)
        have HX9 := Lib.hid X9
        clear mv HC hxs
        go_upto_region 10 with fail
        go_wp2_with (first | ((with_reducible refine wpList_putRow 25 (w.heap.size + 1) #[.string m.name, .slice Ai m.imps.length ci, .slice A6 xs.length c6] _ _ X9 ?_ ?_ ?_ ?_ ?_ ?_); exact modSize; rfl; exact modOne; (focus (first | (go_simp; done) | rfl)); (focus (first | (go_simp; done) | rfl))))
        exact ret_agg1 (fn := Tryz.f14) (vs := [.string m.name, .slice Ai m.imps.length ci, .slice A6 xs.length c6]) (b := w.heap.size + 1) rfl rfl Tryz.underlying25 (by kernel_rfl) (cell3 (setRow_heap _ (w.heap.size + 1) _ _ _ _ HX9.out)) rfl ⟨_, rfl, FIN.out, FB.out⟩

end Go.Proofs.YtpfoclpgcbjjoaaGreatDoor

/- The walk of SyntaxBack: whatever module and whatever text are handed in. -/
namespace Go.Proofs.YtpfoclpgcbjjoaaGreatDoor
open Go.RowKit
open Go.Sort
open M

theorem few_parts {m : Mo} (h : fewM m = true) : m.imps.length ≤ 100 ∧ m.decs.length ≤ 100 ∧ ∀ d ∈ m.decs, many d.typ ≤ 9000 ∧ shortT d.typ := by
  have hd := few_decs h
  unfold fewM at h
  simp only [Bool.and_eq_true, List.all_eq_true, decide_eq_true_eq] at h
  refine ⟨h.2.1, h.2.2.1, fun d hm => ⟨hd d hm, ?_⟩⟩
  have := h.2.2.2 d hm
  unfold fewD at this
  simp only [Bool.and_eq_true] at this
  exact few_short _ 3000 (of_decide_eq_true this.1)

set_option maxRecDepth 100000 in
set_option maxHeartbeats 16000000 in
theorem syntaxBack_any (m : Mo) (l : List Value) (s : ByteArray) (w : World) (hv : MoAt w l m) (he : CEnv w) (hg : ErrT w) :
    Calls Tryz.prog 4 #[.agg l.toArray, .string s] w fun e w' => e = .returned (.bool true) ∧ Below w.heap.size w w' := by
  have HV := Lib.hid hv
  have HE := Lib.hid he
  have HG := Lib.hid hg
  obtain ⟨Ai, ci, Ad, cd, rfl, -, -, -, -, -⟩ := hv
  clear he hg
  obtain ⟨wb, hwb⟩ : ∃ wb, wb = w.alloc (.cells #[.string m.name, .slice Ai m.imps.length ci, .slice Ad m.decs.length cd] 25) := ⟨_, rfl⟩
  have HBB : Hid (Below w.heap.size w wb) := Lib.hid (by rw [hwb]; exact below_new (Below.refl _ _) _)
  have HXm : Hid (∀ w', Below wb.heap.size wb w' → ∀ i v, (#[.string m.name, .slice Ai m.imps.length ci, .slice Ad m.decs.length cd] : Array Value)[i]? = some v → w'.cell? ⟨w.heap.size, i, none⟩ = some v) := Lib.hid (fun w' hb i v hv => by
    have h1 : wb.heap[w.heap.size]? = some (.cells #[.string m.name, .slice Ai m.imps.length ci, .slice Ad m.decs.length cd] 25 (0, 0)) := by rw [hwb]; exact heap_alloc_new w _
    rw [(bcell hb).1 _ _ (Array.getElem?_eq_some_iff.1 h1).1, Lib.cell_of_heap h1]; exact hv)
  have HVm : Hid (∀ w', Below wb.heap.size wb w' → MoAt w' [.string m.name, .slice Ai m.imps.length ci, .slice Ad m.decs.length cd] m) := Lib.hid (fun w' hb => HV.out.below (below_over HBB.out hb))
  have HE0 : Hid (∀ w', Below wb.heap.size wb w' → CEnv w') := Lib.hid (fun w' hb => HE.out.on (below_over HBB.out hb))
  have HG0 : Hid (∀ w', Below wb.heap.size wb w' → ErrT w') := Lib.hid (fun w' hb => HG.out.on (below_over HBB.out hb))
  have HWB := Lib.hid hwb
  clear hwb HV HE HG
  go_enter Tryz.func4, Tryz.ntmps4
  go_wp2_with fail
  rw [← HWB.out]
  refine (up6_any _ (HE0.out _ (Below.refl _ _)) (HG0.out _ (Below.refl _ _))).mono ?_; rintro e w1 ⟨rfl, hb1⟩
  have Hm1 := Lib.hid hb1
  clear hb1
  have xm0 := HXm.out w1 Hm1.out 0 _ rfl
  have xm1 := HXm.out w1 Hm1.out 1 _ rfl
  have xm2 := HXm.out w1 Hm1.out 2 _ rfl
  go_wp2_with fail
  refine (rfew6_any m _ _ (HVm.out _ Hm1.out)).mono ?_; rintro e w2 ⟨rfl, hb2⟩
  have Hm2 := Lib.hid (below_over Hm1.out hb2)
  clear xm0 xm1 xm2
  clear hb2
  rcases hid_or (fewM m) with hf | hf
  · rw [hf.out]
    go_wp2_with fail
    go_ret
    exact ⟨rfl, below_over HBB.out Hm2.out⟩
  rw [hf.out]
  obtain ⟨hI, hN, hD⟩ := few_parts hf.out
  have HD := Lib.hid hD
  clear hD
  by_cases hs : 20000 < s.size
  · have hs1 : (20000 : Int) < s.size := by omega
    go_wp2_with fail
    go_ret
    exact ⟨rfl, below_over HBB.out Hm2.out⟩
  have hs1 : ¬ (20000 : Int) < s.size := by omega
  have PC : Hid (∀ w, CEnv w → Calls Tryz.prog 16 #[.string s] w (PmOut w (parM s))) := Lib.hid (fun w he => cmparse_any s w (by omega) he)
  have xm0 := HXm.out w2 Hm2.out 0 _ rfl
  have xm1 := HXm.out w2 Hm2.out 1 _ rfl
  have xm2 := HXm.out w2 Hm2.out 2 _ rfl
  go_wp2_with fail
  refine (copy6_any m _ _ (HVm.out _ Hm2.out) (by omega) (by omega) HD.out).mono ?_; rintro e w3 ⟨lo, rfl, hO, hb3⟩
  have Hm3 := Lib.hid (below_over Hm2.out hb3)
  clear xm0 xm1 xm2
  obtain ⟨Oi, oi, Od, od, rfl, -⟩ := id hO
  clear hb3
  obtain ⟨w4, hw4⟩ : ∃ w4, w4 = w3.alloc (.cells #[.string m.name, .slice Oi m.imps.length oi, .slice Od m.decs.length od] 25) := ⟨_, rfl⟩
  have hb4 : Below w3.heap.size w3 w4 := by rw [hw4]; exact below_new (Below.refl _ _) _
  have HXo : Hid (∀ w', Below w4.heap.size w4 w' → ∀ i v, (#[.string m.name, .slice Oi m.imps.length oi, .slice Od m.decs.length od] : Array Value)[i]? = some v → w'.cell? ⟨w3.heap.size, i, none⟩ = some v) := Lib.hid (fun w' hb i v hv => by
    have h1 : w4.heap[w3.heap.size]? = some (.cells #[.string m.name, .slice Oi m.imps.length oi, .slice Od m.decs.length od] 25 (0, 0)) := by rw [hw4]; exact heap_alloc_new w3 _
    rw [(bcell hb).1 _ _ (Array.getElem?_eq_some_iff.1 h1).1, Lib.cell_of_heap h1]; exact hv)
  have HVo : Hid (∀ w', Below w4.heap.size w4 w' → MoAt w' [.string m.name, .slice Oi m.imps.length oi, .slice Od m.decs.length od] m) := Lib.hid (fun w' hb => (hO).below (below_over hb4 hb))
  have Hm4 := Lib.hid (below_over Hm3.out hb4)
  have Ho4 : Hid (Below w4.heap.size w4 w4) := Lib.hid (Below.refl _ _)
  have HW4 := Lib.hid hw4
  clear hw4 hb4
  clear hO
  go_upto_region 6 with fail
  rw [← HW4.out]
  rcases hid_or (mayM m) with hm | hm
  · have _hh := trivial
    have xo0 := HXo.out w4 Ho4.out 0 _ rfl
    have xo1 := HXo.out w4 Ho4.out 1 _ rfl
    have xo2 := HXo.out w4 Ho4.out 2 _ rfl
    go_wp2_with fail
    refine (cprint_no m _ _ (HVo.out _ Ho4.out) hm.out).mono ?_; rintro e w5 ⟨rfl, hb5⟩
    have Hm5 := Lib.hid (below_over Hm4.out hb5)
    have Ho5 := Lib.hid (below_over Ho4.out hb5)
    clear xo0 xo1 xo2
    clear hb5
    have xo0 := HXo.out w5 Ho5.out 0 _ rfl
    have xo1 := HXo.out w5 Ho5.out 1 _ rfl
    have xo2 := HXo.out w5 Ho5.out 2 _ rfl
    have xm0 := HXm.out w5 Hm5.out 0 _ rfl
    have xm1 := HXm.out w5 Hm5.out 1 _ rfl
    have xm2 := HXm.out w5 Hm5.out 2 _ rfl
    go_wp2_with fail
    refine (same6_any m _ _ w5 (HVo.out _ Ho5.out) (HVm.out _ Hm5.out)).mono ?_; rintro e w6 ⟨rfl, hb6⟩
    have Hm6 := Lib.hid (below_over Hm5.out hb6)
    have Ho6 := Lib.hid (below_over Ho5.out hb6)
    clear xo0 xo1 xo2 xm0 xm1 xm2
    clear hb6
    go_wp2_with fail
    refine (PC.out w6 (HE0.out _ Hm6.out)).mono ?_
    rintro e w20 ⟨hb20, ⟨ly, y, jy, hok, rfl, hY⟩ | ⟨b, j, gb, herr, hb, rfl, hsp⟩⟩
    rotate_left
    · have _hh := trivial
      have Hm20 := Lib.hid (below_over Hm6.out hb20)
      have Ho20 := Lib.hid (below_over Ho6.out hb20)
      clear hsp hb20
      obtain ⟨w21, hw21⟩ : ∃ w21, w21 = w20.alloc (.cells #[.string ⟨#[]⟩, .slice none 0 0, .slice none 0 0] 25) := ⟨_, rfl⟩
      have hb21 : Below w20.heap.size w20 w21 := by rw [hw21]; exact below_new (Below.refl _ _) _
      have HXz : Hid (∀ w', Below w21.heap.size w21 w' → ∀ i v, (#[.string ⟨#[]⟩, .slice none 0 0, .slice none 0 0] : Array Value)[i]? = some v → w'.cell? ⟨w20.heap.size, i, none⟩ = some v) := Lib.hid (fun w' hb i v hv => by
        have h1 : w21.heap[w20.heap.size]? = some (.cells #[.string ⟨#[]⟩, .slice none 0 0, .slice none 0 0] 25 (0, 0)) := by rw [hw21]; exact heap_alloc_new w20 _
        rw [(bcell hb).1 _ _ (Array.getElem?_eq_some_iff.1 h1).1, Lib.cell_of_heap h1]; exact hv)
      have Hm21 := Lib.hid (below_over Hm20.out hb21)
      have Ho21 := Lib.hid (below_over Ho20.out hb21)
      have Hz21 : Hid (Below w21.heap.size w21 w21) := Lib.hid (Below.refl _ _)
      have HW21 := Lib.hid hw21
      clear hw21 hb21
      go_upto_region 14 with fail
      rw [← HW21.out]
      go_wp2_with fail
      go_ret
      exact ⟨rfl, below_over HBB.out Hm21.out⟩
    have Hm20 := Lib.hid (below_over Hm6.out hb20)
    have Ho20 := Lib.hid (below_over Ho6.out hb20)
    obtain ⟨Yi, yi, Yd, yd, rfl, -⟩ := id hY
    clear hb20
    have HMY := Lib.hid (parM_may hok)
    obtain ⟨w21, hw21⟩ : ∃ w21, w21 = w20.alloc (.cells #[.string y.name, .slice Yi y.imps.length yi, .slice Yd y.decs.length yd] 25) := ⟨_, rfl⟩
    have hb21 : Below w20.heap.size w20 w21 := by rw [hw21]; exact below_new (Below.refl _ _) _
    have HXy : Hid (∀ w', Below w21.heap.size w21 w' → ∀ i v, (#[.string y.name, .slice Yi y.imps.length yi, .slice Yd y.decs.length yd] : Array Value)[i]? = some v → w'.cell? ⟨w20.heap.size, i, none⟩ = some v) := Lib.hid (fun w' hb i v hv => by
      have h1 : w21.heap[w20.heap.size]? = some (.cells #[.string y.name, .slice Yi y.imps.length yi, .slice Yd y.decs.length yd] 25 (0, 0)) := by rw [hw21]; exact heap_alloc_new w20 _
      rw [(bcell hb).1 _ _ (Array.getElem?_eq_some_iff.1 h1).1, Lib.cell_of_heap h1]; exact hv)
    have HVy : Hid (∀ w', Below w21.heap.size w21 w' → MoAt w' [.string y.name, .slice Yi y.imps.length yi, .slice Yd y.decs.length yd] y) := Lib.hid (fun w' hb => (hY.free).below (below_over hb21 hb))
    have Hm21 := Lib.hid (below_over Hm20.out hb21)
    have Ho21 := Lib.hid (below_over Ho20.out hb21)
    have Hy21 : Hid (Below w21.heap.size w21 w21) := Lib.hid (Below.refl _ _)
    have HW21 := Lib.hid hw21
    clear hw21 hb21
    obtain ⟨jb, hbk⟩ := parM_back HMY.out
    have HBK := Lib.hid hbk
    clear hY hok hbk
    go_upto_region 14 with fail
    rw [← HW21.out]
    go_upto_region 16 with fail
    have xy0 := HXy.out w21 Hy21.out 0 _ rfl
    have xy1 := HXy.out w21 Hy21.out 1 _ rfl
    have xy2 := HXy.out w21 Hy21.out 2 _ rfl
    have PY := cprint_yes y _ _ (HVy.out _ Hy21.out) HMY.out (HE0.out _ Hm21.out).pow
    obtain ⟨Q, hQ⟩ : ∃ Q, Q = (⟨(textM y).toArray⟩ : ByteArray) := ⟨_, rfl⟩
    rw [← hQ] at PY
    rw [← hQ] at HBK
    have HPY := Lib.hid PY
    clear PY hQ
    go_wp2_with fail
    refine HPY.out.mono ?_; rintro e w22 ⟨rfl, hb22⟩
    have Hm22 := Lib.hid (below_over Hm21.out hb22)
    have Ho22 := Lib.hid (below_over Ho21.out hb22)
    have Hy22 := Lib.hid (below_over Hy21.out hb22)
    clear xy0 xy1 xy2
    clear hb22
    by_cases hq : 20000 < Q.size
    · have hq1 : (20000 : Int) < Q.size := by omega
      go_wp2_with fail
      refine (cmparse_large Q w22 hq).mono ?_; rintro e w23 ⟨rfl, hb23⟩
      have Hm23 := Lib.hid (below_over Hm22.out hb23)
      have Ho23 := Lib.hid (below_over Ho22.out hb23)
      have Hy23 := Lib.hid (below_over Hy22.out hb23)
      clear hb23
      obtain ⟨w24, hw24⟩ : ∃ w24, w24 = w23.alloc (.cells #[.string ⟨#[]⟩, .slice none 0 0, .slice none 0 0] 25) := ⟨_, rfl⟩
      have hb24 : Below w23.heap.size w23 w24 := by rw [hw24]; exact below_new (Below.refl _ _) _
      have HXz : Hid (∀ w', Below w24.heap.size w24 w' → ∀ i v, (#[.string ⟨#[]⟩, .slice none 0 0, .slice none 0 0] : Array Value)[i]? = some v → w'.cell? ⟨w23.heap.size, i, none⟩ = some v) := Lib.hid (fun w' hb i v hv => by
        have h1 : w24.heap[w23.heap.size]? = some (.cells #[.string ⟨#[]⟩, .slice none 0 0, .slice none 0 0] 25 (0, 0)) := by rw [hw24]; exact heap_alloc_new w23 _
        rw [(bcell hb).1 _ _ (Array.getElem?_eq_some_iff.1 h1).1, Lib.cell_of_heap h1]; exact hv)
      have Hm24 := Lib.hid (below_over Hm23.out hb24)
      have Ho24 := Lib.hid (below_over Ho23.out hb24)
      have Hy24 := Lib.hid (below_over Hy23.out hb24)
      have Hz24 : Hid (Below w24.heap.size w24 w24) := Lib.hid (Below.refl _ _)
      have HW24 := Lib.hid hw24
      clear hw24 hb24
      go_upto_region 18 with fail
      rw [← HW24.out]
      go_wp2_with fail
      go_ret
      exact ⟨rfl, below_over HBB.out Hm24.out⟩
    · have hq1 : ¬ (20000 : Int) < Q.size := by omega
      go_wp2_with fail
      refine (cmparse_any Q w22 (by omega) (HE0.out _ Hm22.out)).mono ?_
      rintro e w23 ⟨hb23, ⟨lz, z, jz, hok, rfl, hZ⟩ | ⟨b, j, gb, herr, -⟩⟩
      rotate_left
      · rw [HBK.out] at herr; cases herr
      obtain rfl : y = z := by have h := HBK.out; rw [hok] at h; cases h; rfl
      have Hm23 := Lib.hid (below_over Hm22.out hb23)
      have Ho23 := Lib.hid (below_over Ho22.out hb23)
      have Hy23 := Lib.hid (below_over Hy22.out hb23)
      clear hb23 hok
      obtain ⟨Zi, zi, Zd, zd, rfl, -⟩ := id hZ
      obtain ⟨w24, hw24⟩ : ∃ w24, w24 = w23.alloc (.cells #[.string y.name, .slice Zi y.imps.length zi, .slice Zd y.decs.length zd] 25) := ⟨_, rfl⟩
      have hb24 : Below w23.heap.size w23 w24 := by rw [hw24]; exact below_new (Below.refl _ _) _
      have HXz : Hid (∀ w', Below w24.heap.size w24 w' → ∀ i v, (#[.string y.name, .slice Zi y.imps.length zi, .slice Zd y.decs.length zd] : Array Value)[i]? = some v → w'.cell? ⟨w23.heap.size, i, none⟩ = some v) := Lib.hid (fun w' hb i v hv => by
        have h1 : w24.heap[w23.heap.size]? = some (.cells #[.string y.name, .slice Zi y.imps.length zi, .slice Zd y.decs.length zd] 25 (0, 0)) := by rw [hw24]; exact heap_alloc_new w23 _
        rw [(bcell hb).1 _ _ (Array.getElem?_eq_some_iff.1 h1).1, Lib.cell_of_heap h1]; exact hv)
      have HVz : Hid (∀ w', Below w24.heap.size w24 w' → MoAt w' [.string y.name, .slice Zi y.imps.length zi, .slice Zd y.decs.length zd] y) := Lib.hid (fun w' hb => (hZ.free).below (below_over hb24 hb))
      have Hm24 := Lib.hid (below_over Hm23.out hb24)
      have Ho24 := Lib.hid (below_over Ho23.out hb24)
      have Hy24 := Lib.hid (below_over Hy23.out hb24)
      have Hz24 : Hid (Below w24.heap.size w24 w24) := Lib.hid (Below.refl _ _)
      have HW24 := Lib.hid hw24
      clear hw24 hb24
      clear hZ
      go_upto_region 18 with fail
      rw [← HW24.out]
      have xy0 := HXy.out w24 Hy24.out 0 _ rfl
      have xy1 := HXy.out w24 Hy24.out 1 _ rfl
      have xy2 := HXy.out w24 Hy24.out 2 _ rfl
      have xz0 := HXz.out w24 Hz24.out 0 _ rfl
      have xz1 := HXz.out w24 Hz24.out 1 _ rfl
      have xz2 := HXz.out w24 Hz24.out 2 _ rfl
      go_wp2_with fail
      refine (same6_any y _ _ w24 (HVz.out _ Hz24.out) (HVy.out _ Hy24.out)).mono ?_; rintro e w25 ⟨rfl, hb25⟩
      have Hm25 := Lib.hid (below_over Hm24.out hb25)
      have Ho25 := Lib.hid (below_over Ho24.out hb25)
      have Hy25 := Lib.hid (below_over Hy24.out hb25)
      have Hz25 := Lib.hid (below_over Hz24.out hb25)
      clear xy0 xy1 xy2 xz0 xz1 xz2
      clear hb25
      go_wp2_with fail
      go_ret
      exact ⟨rfl, below_over HBB.out Hm25.out⟩
  · obtain ⟨jm, hbm⟩ := parM_back hm.out
    have PO := cprint_yes m _ _ (HVo.out _ Ho4.out) hm.out (HE0.out _ Hm4.out).pow
    obtain ⟨R, hR⟩ : ∃ R, R = (⟨(textM m).toArray⟩ : ByteArray) := ⟨_, rfl⟩
    rw [← hR] at PO hbm
    have HPO := Lib.hid PO
    have HBM := Lib.hid hbm
    clear PO hR hbm
    have xo0 := HXo.out w4 Ho4.out 0 _ rfl
    have xo1 := HXo.out w4 Ho4.out 1 _ rfl
    have xo2 := HXo.out w4 Ho4.out 2 _ rfl
    go_wp2_with fail
    refine HPO.out.mono ?_; rintro e w5 ⟨rfl, hb5⟩
    have Hm5 := Lib.hid (below_over Hm4.out hb5)
    have Ho5 := Lib.hid (below_over Ho4.out hb5)
    clear xo0 xo1 xo2
    clear hb5
    have xo0 := HXo.out w5 Ho5.out 0 _ rfl
    have xo1 := HXo.out w5 Ho5.out 1 _ rfl
    have xo2 := HXo.out w5 Ho5.out 2 _ rfl
    have xm0 := HXm.out w5 Hm5.out 0 _ rfl
    have xm1 := HXm.out w5 Hm5.out 1 _ rfl
    have xm2 := HXm.out w5 Hm5.out 2 _ rfl
    go_wp2_with fail
    refine (same6_any m _ _ w5 (HVo.out _ Ho5.out) (HVm.out _ Hm5.out)).mono ?_; rintro e w6 ⟨rfl, hb6⟩
    have Hm6 := Lib.hid (below_over Hm5.out hb6)
    have Ho6 := Lib.hid (below_over Ho5.out hb6)
    clear xo0 xo1 xo2 xm0 xm1 xm2
    clear hb6
    by_cases hr : (R.size : Int) ≤ 20000
    · go_wp2_with fail
      refine (cmparse_any R w6 (by omega) (HE0.out _ Hm6.out)).mono ?_
      rintro e w7 ⟨hb7, ⟨lx, x, jx, hok, rfl, hx⟩ | ⟨b, j, gb, herr, -⟩⟩
      rotate_left
      · rw [HBM.out] at herr; cases herr
      obtain rfl : m = x := by have h := HBM.out; rw [hok] at h; cases h; rfl
      have Hm7 := Lib.hid (below_over Hm6.out hb7)
      have Ho7 := Lib.hid (below_over Ho6.out hb7)
      clear hb7 hok
      obtain ⟨Xi, xi, Xd, xd, rfl, -⟩ := id hx
      obtain ⟨w8, hw8⟩ : ∃ w8, w8 = w7.alloc (.cells #[.string m.name, .slice Xi m.imps.length xi, .slice Xd m.decs.length xd] 25) := ⟨_, rfl⟩
      have hb8 : Below w7.heap.size w7 w8 := by rw [hw8]; exact below_new (Below.refl _ _) _
      have HXx : Hid (∀ w', Below w8.heap.size w8 w' → ∀ i v, (#[.string m.name, .slice Xi m.imps.length xi, .slice Xd m.decs.length xd] : Array Value)[i]? = some v → w'.cell? ⟨w7.heap.size, i, none⟩ = some v) := Lib.hid (fun w' hb i v hv => by
        have h1 : w8.heap[w7.heap.size]? = some (.cells #[.string m.name, .slice Xi m.imps.length xi, .slice Xd m.decs.length xd] 25 (0, 0)) := by rw [hw8]; exact heap_alloc_new w7 _
        rw [(bcell hb).1 _ _ (Array.getElem?_eq_some_iff.1 h1).1, Lib.cell_of_heap h1]; exact hv)
      have HVx : Hid (∀ w', Below w8.heap.size w8 w' → MoAt w' [.string m.name, .slice Xi m.imps.length xi, .slice Xd m.decs.length xd] m) := Lib.hid (fun w' hb => (hx.free).below (below_over hb8 hb))
      have Hm8 := Lib.hid (below_over Hm7.out hb8)
      have Ho8 := Lib.hid (below_over Ho7.out hb8)
      have Hx8 : Hid (Below w8.heap.size w8 w8) := Lib.hid (Below.refl _ _)
      have HW8 := Lib.hid hw8
      clear hw8 hb8
      clear hx
      go_upto_region 11 with fail
      rw [← HW8.out]
      have xx0 := HXx.out w8 Hx8.out 0 _ rfl
      have xx1 := HXx.out w8 Hx8.out 1 _ rfl
      have xx2 := HXx.out w8 Hx8.out 2 _ rfl
      have xm0 := HXm.out w8 Hm8.out 0 _ rfl
      have xm1 := HXm.out w8 Hm8.out 1 _ rfl
      have xm2 := HXm.out w8 Hm8.out 2 _ rfl
      go_wp2_with fail
      refine (same6_any m _ _ w8 (HVx.out _ Hx8.out) (HVm.out _ Hm8.out)).mono ?_; rintro e w9 ⟨rfl, hb9⟩
      have Hm9 := Lib.hid (below_over Hm8.out hb9)
      have Ho9 := Lib.hid (below_over Ho8.out hb9)
      have Hx9 := Lib.hid (below_over Hx8.out hb9)
      clear xx0 xx1 xx2 xm0 xm1 xm2
      clear hb9
      go_wp2_with fail
      refine (PC.out w9 (HE0.out _ Hm9.out)).mono ?_
      rintro e w20 ⟨hb20, ⟨ly, y, jy, hok, rfl, hY⟩ | ⟨b, j, gb, herr, hb, rfl, hsp⟩⟩
      rotate_left
      · have _hh := trivial
        have Hm20 := Lib.hid (below_over Hm9.out hb20)
        have Ho20 := Lib.hid (below_over Ho9.out hb20)
        have Hx20 := Lib.hid (below_over Hx9.out hb20)
        clear hsp hb20
        obtain ⟨w21, hw21⟩ : ∃ w21, w21 = w20.alloc (.cells #[.string ⟨#[]⟩, .slice none 0 0, .slice none 0 0] 25) := ⟨_, rfl⟩
        have hb21 : Below w20.heap.size w20 w21 := by rw [hw21]; exact below_new (Below.refl _ _) _
        have HXz : Hid (∀ w', Below w21.heap.size w21 w' → ∀ i v, (#[.string ⟨#[]⟩, .slice none 0 0, .slice none 0 0] : Array Value)[i]? = some v → w'.cell? ⟨w20.heap.size, i, none⟩ = some v) := Lib.hid (fun w' hb i v hv => by
          have h1 : w21.heap[w20.heap.size]? = some (.cells #[.string ⟨#[]⟩, .slice none 0 0, .slice none 0 0] 25 (0, 0)) := by rw [hw21]; exact heap_alloc_new w20 _
          rw [(bcell hb).1 _ _ (Array.getElem?_eq_some_iff.1 h1).1, Lib.cell_of_heap h1]; exact hv)
        have Hm21 := Lib.hid (below_over Hm20.out hb21)
        have Ho21 := Lib.hid (below_over Ho20.out hb21)
        have Hx21 := Lib.hid (below_over Hx20.out hb21)
        have Hz21 : Hid (Below w21.heap.size w21 w21) := Lib.hid (Below.refl _ _)
        have HW21 := Lib.hid hw21
        clear hw21 hb21
        go_upto_region 14 with fail
        rw [← HW21.out]
        go_wp2_with fail
        go_ret
        exact ⟨rfl, below_over HBB.out Hm21.out⟩
      have Hm20 := Lib.hid (below_over Hm9.out hb20)
      have Ho20 := Lib.hid (below_over Ho9.out hb20)
      have Hx20 := Lib.hid (below_over Hx9.out hb20)
      obtain ⟨Yi, yi, Yd, yd, rfl, -⟩ := id hY
      clear hb20
      have HMY := Lib.hid (parM_may hok)
      obtain ⟨w21, hw21⟩ : ∃ w21, w21 = w20.alloc (.cells #[.string y.name, .slice Yi y.imps.length yi, .slice Yd y.decs.length yd] 25) := ⟨_, rfl⟩
      have hb21 : Below w20.heap.size w20 w21 := by rw [hw21]; exact below_new (Below.refl _ _) _
      have HXy : Hid (∀ w', Below w21.heap.size w21 w' → ∀ i v, (#[.string y.name, .slice Yi y.imps.length yi, .slice Yd y.decs.length yd] : Array Value)[i]? = some v → w'.cell? ⟨w20.heap.size, i, none⟩ = some v) := Lib.hid (fun w' hb i v hv => by
        have h1 : w21.heap[w20.heap.size]? = some (.cells #[.string y.name, .slice Yi y.imps.length yi, .slice Yd y.decs.length yd] 25 (0, 0)) := by rw [hw21]; exact heap_alloc_new w20 _
        rw [(bcell hb).1 _ _ (Array.getElem?_eq_some_iff.1 h1).1, Lib.cell_of_heap h1]; exact hv)
      have HVy : Hid (∀ w', Below w21.heap.size w21 w' → MoAt w' [.string y.name, .slice Yi y.imps.length yi, .slice Yd y.decs.length yd] y) := Lib.hid (fun w' hb => (hY.free).below (below_over hb21 hb))
      have Hm21 := Lib.hid (below_over Hm20.out hb21)
      have Ho21 := Lib.hid (below_over Ho20.out hb21)
      have Hx21 := Lib.hid (below_over Hx20.out hb21)
      have Hy21 : Hid (Below w21.heap.size w21 w21) := Lib.hid (Below.refl _ _)
      have HW21 := Lib.hid hw21
      clear hw21 hb21
      obtain ⟨jb, hbk⟩ := parM_back HMY.out
      have HBK := Lib.hid hbk
      clear hY hok hbk
      go_upto_region 14 with fail
      rw [← HW21.out]
      go_upto_region 16 with fail
      have xy0 := HXy.out w21 Hy21.out 0 _ rfl
      have xy1 := HXy.out w21 Hy21.out 1 _ rfl
      have xy2 := HXy.out w21 Hy21.out 2 _ rfl
      have PY := cprint_yes y _ _ (HVy.out _ Hy21.out) HMY.out (HE0.out _ Hm21.out).pow
      obtain ⟨Q, hQ⟩ : ∃ Q, Q = (⟨(textM y).toArray⟩ : ByteArray) := ⟨_, rfl⟩
      rw [← hQ] at PY
      rw [← hQ] at HBK
      have HPY := Lib.hid PY
      clear PY hQ
      go_wp2_with fail
      refine HPY.out.mono ?_; rintro e w22 ⟨rfl, hb22⟩
      have Hm22 := Lib.hid (below_over Hm21.out hb22)
      have Ho22 := Lib.hid (below_over Ho21.out hb22)
      have Hx22 := Lib.hid (below_over Hx21.out hb22)
      have Hy22 := Lib.hid (below_over Hy21.out hb22)
      clear xy0 xy1 xy2
      clear hb22
      by_cases hq : 20000 < Q.size
      · have hq1 : (20000 : Int) < Q.size := by omega
        go_wp2_with fail
        refine (cmparse_large Q w22 hq).mono ?_; rintro e w23 ⟨rfl, hb23⟩
        have Hm23 := Lib.hid (below_over Hm22.out hb23)
        have Ho23 := Lib.hid (below_over Ho22.out hb23)
        have Hx23 := Lib.hid (below_over Hx22.out hb23)
        have Hy23 := Lib.hid (below_over Hy22.out hb23)
        clear hb23
        obtain ⟨w24, hw24⟩ : ∃ w24, w24 = w23.alloc (.cells #[.string ⟨#[]⟩, .slice none 0 0, .slice none 0 0] 25) := ⟨_, rfl⟩
        have hb24 : Below w23.heap.size w23 w24 := by rw [hw24]; exact below_new (Below.refl _ _) _
        have HXz : Hid (∀ w', Below w24.heap.size w24 w' → ∀ i v, (#[.string ⟨#[]⟩, .slice none 0 0, .slice none 0 0] : Array Value)[i]? = some v → w'.cell? ⟨w23.heap.size, i, none⟩ = some v) := Lib.hid (fun w' hb i v hv => by
          have h1 : w24.heap[w23.heap.size]? = some (.cells #[.string ⟨#[]⟩, .slice none 0 0, .slice none 0 0] 25 (0, 0)) := by rw [hw24]; exact heap_alloc_new w23 _
          rw [(bcell hb).1 _ _ (Array.getElem?_eq_some_iff.1 h1).1, Lib.cell_of_heap h1]; exact hv)
        have Hm24 := Lib.hid (below_over Hm23.out hb24)
        have Ho24 := Lib.hid (below_over Ho23.out hb24)
        have Hx24 := Lib.hid (below_over Hx23.out hb24)
        have Hy24 := Lib.hid (below_over Hy23.out hb24)
        have Hz24 : Hid (Below w24.heap.size w24 w24) := Lib.hid (Below.refl _ _)
        have HW24 := Lib.hid hw24
        clear hw24 hb24
        go_upto_region 18 with fail
        rw [← HW24.out]
        go_wp2_with fail
        go_ret
        exact ⟨rfl, below_over HBB.out Hm24.out⟩
      · have hq1 : ¬ (20000 : Int) < Q.size := by omega
        go_wp2_with fail
        refine (cmparse_any Q w22 (by omega) (HE0.out _ Hm22.out)).mono ?_
        rintro e w23 ⟨hb23, ⟨lz, z, jz, hok, rfl, hZ⟩ | ⟨b, j, gb, herr, -⟩⟩
        rotate_left
        · rw [HBK.out] at herr; cases herr
        obtain rfl : y = z := by have h := HBK.out; rw [hok] at h; cases h; rfl
        have Hm23 := Lib.hid (below_over Hm22.out hb23)
        have Ho23 := Lib.hid (below_over Ho22.out hb23)
        have Hx23 := Lib.hid (below_over Hx22.out hb23)
        have Hy23 := Lib.hid (below_over Hy22.out hb23)
        clear hb23 hok
        obtain ⟨Zi, zi, Zd, zd, rfl, -⟩ := id hZ
        obtain ⟨w24, hw24⟩ : ∃ w24, w24 = w23.alloc (.cells #[.string y.name, .slice Zi y.imps.length zi, .slice Zd y.decs.length zd] 25) := ⟨_, rfl⟩
        have hb24 : Below w23.heap.size w23 w24 := by rw [hw24]; exact below_new (Below.refl _ _) _
        have HXz : Hid (∀ w', Below w24.heap.size w24 w' → ∀ i v, (#[.string y.name, .slice Zi y.imps.length zi, .slice Zd y.decs.length zd] : Array Value)[i]? = some v → w'.cell? ⟨w23.heap.size, i, none⟩ = some v) := Lib.hid (fun w' hb i v hv => by
          have h1 : w24.heap[w23.heap.size]? = some (.cells #[.string y.name, .slice Zi y.imps.length zi, .slice Zd y.decs.length zd] 25 (0, 0)) := by rw [hw24]; exact heap_alloc_new w23 _
          rw [(bcell hb).1 _ _ (Array.getElem?_eq_some_iff.1 h1).1, Lib.cell_of_heap h1]; exact hv)
        have HVz : Hid (∀ w', Below w24.heap.size w24 w' → MoAt w' [.string y.name, .slice Zi y.imps.length zi, .slice Zd y.decs.length zd] y) := Lib.hid (fun w' hb => (hZ.free).below (below_over hb24 hb))
        have Hm24 := Lib.hid (below_over Hm23.out hb24)
        have Ho24 := Lib.hid (below_over Ho23.out hb24)
        have Hx24 := Lib.hid (below_over Hx23.out hb24)
        have Hy24 := Lib.hid (below_over Hy23.out hb24)
        have Hz24 : Hid (Below w24.heap.size w24 w24) := Lib.hid (Below.refl _ _)
        have HW24 := Lib.hid hw24
        clear hw24 hb24
        clear hZ
        go_upto_region 18 with fail
        rw [← HW24.out]
        have xy0 := HXy.out w24 Hy24.out 0 _ rfl
        have xy1 := HXy.out w24 Hy24.out 1 _ rfl
        have xy2 := HXy.out w24 Hy24.out 2 _ rfl
        have xz0 := HXz.out w24 Hz24.out 0 _ rfl
        have xz1 := HXz.out w24 Hz24.out 1 _ rfl
        have xz2 := HXz.out w24 Hz24.out 2 _ rfl
        go_wp2_with fail
        refine (same6_any y _ _ w24 (HVz.out _ Hz24.out) (HVy.out _ Hy24.out)).mono ?_; rintro e w25 ⟨rfl, hb25⟩
        have Hm25 := Lib.hid (below_over Hm24.out hb25)
        have Ho25 := Lib.hid (below_over Ho24.out hb25)
        have Hx25 := Lib.hid (below_over Hx24.out hb25)
        have Hy25 := Lib.hid (below_over Hy24.out hb25)
        have Hz25 := Lib.hid (below_over Hz24.out hb25)
        clear xy0 xy1 xy2 xz0 xz1 xz2
        clear hb25
        go_wp2_with fail
        go_ret
        exact ⟨rfl, below_over HBB.out Hm25.out⟩
    · have _hh := trivial
      go_wp2_with fail
      refine (PC.out w6 (HE0.out _ Hm6.out)).mono ?_
      rintro e w20 ⟨hb20, ⟨ly, y, jy, hok, rfl, hY⟩ | ⟨b, j, gb, herr, hb, rfl, hsp⟩⟩
      rotate_left
      · have _hh := trivial
        have Hm20 := Lib.hid (below_over Hm6.out hb20)
        have Ho20 := Lib.hid (below_over Ho6.out hb20)
        clear hsp hb20
        obtain ⟨w21, hw21⟩ : ∃ w21, w21 = w20.alloc (.cells #[.string ⟨#[]⟩, .slice none 0 0, .slice none 0 0] 25) := ⟨_, rfl⟩
        have hb21 : Below w20.heap.size w20 w21 := by rw [hw21]; exact below_new (Below.refl _ _) _
        have HXz : Hid (∀ w', Below w21.heap.size w21 w' → ∀ i v, (#[.string ⟨#[]⟩, .slice none 0 0, .slice none 0 0] : Array Value)[i]? = some v → w'.cell? ⟨w20.heap.size, i, none⟩ = some v) := Lib.hid (fun w' hb i v hv => by
          have h1 : w21.heap[w20.heap.size]? = some (.cells #[.string ⟨#[]⟩, .slice none 0 0, .slice none 0 0] 25 (0, 0)) := by rw [hw21]; exact heap_alloc_new w20 _
          rw [(bcell hb).1 _ _ (Array.getElem?_eq_some_iff.1 h1).1, Lib.cell_of_heap h1]; exact hv)
        have Hm21 := Lib.hid (below_over Hm20.out hb21)
        have Ho21 := Lib.hid (below_over Ho20.out hb21)
        have Hz21 : Hid (Below w21.heap.size w21 w21) := Lib.hid (Below.refl _ _)
        have HW21 := Lib.hid hw21
        clear hw21 hb21
        go_upto_region 14 with fail
        rw [← HW21.out]
        go_wp2_with fail
        go_ret
        exact ⟨rfl, below_over HBB.out Hm21.out⟩
      have Hm20 := Lib.hid (below_over Hm6.out hb20)
      have Ho20 := Lib.hid (below_over Ho6.out hb20)
      obtain ⟨Yi, yi, Yd, yd, rfl, -⟩ := id hY
      clear hb20
      have HMY := Lib.hid (parM_may hok)
      obtain ⟨w21, hw21⟩ : ∃ w21, w21 = w20.alloc (.cells #[.string y.name, .slice Yi y.imps.length yi, .slice Yd y.decs.length yd] 25) := ⟨_, rfl⟩
      have hb21 : Below w20.heap.size w20 w21 := by rw [hw21]; exact below_new (Below.refl _ _) _
      have HXy : Hid (∀ w', Below w21.heap.size w21 w' → ∀ i v, (#[.string y.name, .slice Yi y.imps.length yi, .slice Yd y.decs.length yd] : Array Value)[i]? = some v → w'.cell? ⟨w20.heap.size, i, none⟩ = some v) := Lib.hid (fun w' hb i v hv => by
        have h1 : w21.heap[w20.heap.size]? = some (.cells #[.string y.name, .slice Yi y.imps.length yi, .slice Yd y.decs.length yd] 25 (0, 0)) := by rw [hw21]; exact heap_alloc_new w20 _
        rw [(bcell hb).1 _ _ (Array.getElem?_eq_some_iff.1 h1).1, Lib.cell_of_heap h1]; exact hv)
      have HVy : Hid (∀ w', Below w21.heap.size w21 w' → MoAt w' [.string y.name, .slice Yi y.imps.length yi, .slice Yd y.decs.length yd] y) := Lib.hid (fun w' hb => (hY.free).below (below_over hb21 hb))
      have Hm21 := Lib.hid (below_over Hm20.out hb21)
      have Ho21 := Lib.hid (below_over Ho20.out hb21)
      have Hy21 : Hid (Below w21.heap.size w21 w21) := Lib.hid (Below.refl _ _)
      have HW21 := Lib.hid hw21
      clear hw21 hb21
      obtain ⟨jb, hbk⟩ := parM_back HMY.out
      have HBK := Lib.hid hbk
      clear hY hok hbk
      go_upto_region 14 with fail
      rw [← HW21.out]
      go_upto_region 16 with fail
      have xy0 := HXy.out w21 Hy21.out 0 _ rfl
      have xy1 := HXy.out w21 Hy21.out 1 _ rfl
      have xy2 := HXy.out w21 Hy21.out 2 _ rfl
      have PY := cprint_yes y _ _ (HVy.out _ Hy21.out) HMY.out (HE0.out _ Hm21.out).pow
      obtain ⟨Q, hQ⟩ : ∃ Q, Q = (⟨(textM y).toArray⟩ : ByteArray) := ⟨_, rfl⟩
      rw [← hQ] at PY
      rw [← hQ] at HBK
      have HPY := Lib.hid PY
      clear PY hQ
      go_wp2_with fail
      refine HPY.out.mono ?_; rintro e w22 ⟨rfl, hb22⟩
      have Hm22 := Lib.hid (below_over Hm21.out hb22)
      have Ho22 := Lib.hid (below_over Ho21.out hb22)
      have Hy22 := Lib.hid (below_over Hy21.out hb22)
      clear xy0 xy1 xy2
      clear hb22
      by_cases hq : 20000 < Q.size
      · have hq1 : (20000 : Int) < Q.size := by omega
        go_wp2_with fail
        refine (cmparse_large Q w22 hq).mono ?_; rintro e w23 ⟨rfl, hb23⟩
        have Hm23 := Lib.hid (below_over Hm22.out hb23)
        have Ho23 := Lib.hid (below_over Ho22.out hb23)
        have Hy23 := Lib.hid (below_over Hy22.out hb23)
        clear hb23
        obtain ⟨w24, hw24⟩ : ∃ w24, w24 = w23.alloc (.cells #[.string ⟨#[]⟩, .slice none 0 0, .slice none 0 0] 25) := ⟨_, rfl⟩
        have hb24 : Below w23.heap.size w23 w24 := by rw [hw24]; exact below_new (Below.refl _ _) _
        have HXz : Hid (∀ w', Below w24.heap.size w24 w' → ∀ i v, (#[.string ⟨#[]⟩, .slice none 0 0, .slice none 0 0] : Array Value)[i]? = some v → w'.cell? ⟨w23.heap.size, i, none⟩ = some v) := Lib.hid (fun w' hb i v hv => by
          have h1 : w24.heap[w23.heap.size]? = some (.cells #[.string ⟨#[]⟩, .slice none 0 0, .slice none 0 0] 25 (0, 0)) := by rw [hw24]; exact heap_alloc_new w23 _
          rw [(bcell hb).1 _ _ (Array.getElem?_eq_some_iff.1 h1).1, Lib.cell_of_heap h1]; exact hv)
        have Hm24 := Lib.hid (below_over Hm23.out hb24)
        have Ho24 := Lib.hid (below_over Ho23.out hb24)
        have Hy24 := Lib.hid (below_over Hy23.out hb24)
        have Hz24 : Hid (Below w24.heap.size w24 w24) := Lib.hid (Below.refl _ _)
        have HW24 := Lib.hid hw24
        clear hw24 hb24
        go_upto_region 18 with fail
        rw [← HW24.out]
        go_wp2_with fail
        go_ret
        exact ⟨rfl, below_over HBB.out Hm24.out⟩
      · have hq1 : ¬ (20000 : Int) < Q.size := by omega
        go_wp2_with fail
        refine (cmparse_any Q w22 (by omega) (HE0.out _ Hm22.out)).mono ?_
        rintro e w23 ⟨hb23, ⟨lz, z, jz, hok, rfl, hZ⟩ | ⟨b, j, gb, herr, -⟩⟩
        rotate_left
        · rw [HBK.out] at herr; cases herr
        obtain rfl : y = z := by have h := HBK.out; rw [hok] at h; cases h; rfl
        have Hm23 := Lib.hid (below_over Hm22.out hb23)
        have Ho23 := Lib.hid (below_over Ho22.out hb23)
        have Hy23 := Lib.hid (below_over Hy22.out hb23)
        clear hb23 hok
        obtain ⟨Zi, zi, Zd, zd, rfl, -⟩ := id hZ
        obtain ⟨w24, hw24⟩ : ∃ w24, w24 = w23.alloc (.cells #[.string y.name, .slice Zi y.imps.length zi, .slice Zd y.decs.length zd] 25) := ⟨_, rfl⟩
        have hb24 : Below w23.heap.size w23 w24 := by rw [hw24]; exact below_new (Below.refl _ _) _
        have HXz : Hid (∀ w', Below w24.heap.size w24 w' → ∀ i v, (#[.string y.name, .slice Zi y.imps.length zi, .slice Zd y.decs.length zd] : Array Value)[i]? = some v → w'.cell? ⟨w23.heap.size, i, none⟩ = some v) := Lib.hid (fun w' hb i v hv => by
          have h1 : w24.heap[w23.heap.size]? = some (.cells #[.string y.name, .slice Zi y.imps.length zi, .slice Zd y.decs.length zd] 25 (0, 0)) := by rw [hw24]; exact heap_alloc_new w23 _
          rw [(bcell hb).1 _ _ (Array.getElem?_eq_some_iff.1 h1).1, Lib.cell_of_heap h1]; exact hv)
        have HVz : Hid (∀ w', Below w24.heap.size w24 w' → MoAt w' [.string y.name, .slice Zi y.imps.length zi, .slice Zd y.decs.length zd] y) := Lib.hid (fun w' hb => (hZ.free).below (below_over hb24 hb))
        have Hm24 := Lib.hid (below_over Hm23.out hb24)
        have Ho24 := Lib.hid (below_over Ho23.out hb24)
        have Hy24 := Lib.hid (below_over Hy23.out hb24)
        have Hz24 : Hid (Below w24.heap.size w24 w24) := Lib.hid (Below.refl _ _)
        have HW24 := Lib.hid hw24
        clear hw24 hb24
        clear hZ
        go_upto_region 18 with fail
        rw [← HW24.out]
        have xy0 := HXy.out w24 Hy24.out 0 _ rfl
        have xy1 := HXy.out w24 Hy24.out 1 _ rfl
        have xy2 := HXy.out w24 Hy24.out 2 _ rfl
        have xz0 := HXz.out w24 Hz24.out 0 _ rfl
        have xz1 := HXz.out w24 Hz24.out 1 _ rfl
        have xz2 := HXz.out w24 Hz24.out 2 _ rfl
        go_wp2_with fail
        refine (same6_any y _ _ w24 (HVz.out _ Hz24.out) (HVy.out _ Hy24.out)).mono ?_; rintro e w25 ⟨rfl, hb25⟩
        have Hm25 := Lib.hid (below_over Hm24.out hb25)
        have Ho25 := Lib.hid (below_over Ho24.out hb25)
        have Hy25 := Lib.hid (below_over Hy24.out hb25)
        have Hz25 := Lib.hid (below_over Hz24.out hb25)
        clear xy0 xy1 xy2 xz0 xz1 xz2
        clear hb25
        go_wp2_with fail
        go_ret
        exact ⟨rfl, below_over HBB.out Hm25.out⟩

end Go.Proofs.YtpfoclpgcbjjoaaGreatDoor
