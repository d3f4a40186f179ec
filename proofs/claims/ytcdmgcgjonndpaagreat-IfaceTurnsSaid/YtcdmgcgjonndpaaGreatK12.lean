/-
  Several texts in one:  ·  ·  ·  ·  ·  ·  · 
-/
import Derived.Test.YtcdmgcgjonndpaaGreatK07
import Derived.Test.YtcdmgcgjonndpaaGreatK11
import Derived.Test.YtcdmgcgjonndpaaGreatK03
import Derived.Test.YtcdmgcgjonndpaaGreatK05
/-  -/
namespace Go.Proofs.YtcdmgcgjonndpaaGreat
open Go.RowKit
open Go.Sort
open M
theorem own_cap {w : World} {base : Nat} {e : TypeId} {z : Nat} {A : Option Addr} {n c : Nat} {xs : List Value} (h : w.ownsRow base e z (.slice A n c) n xs) : n ≤ c := by
 rcases h.2 with ⟨e, h0⟩ | ⟨g, cap, cur, hv, hB, hg, hnc, -⟩
 ·omega
 ·cases hv; exact hnc
theorem Row.cap {α : Type} {R : Reads α} {lo : Nat} {xs : List α} {A : Option Addr} {c : Nat} {w : World} (h : Row R lo xs A c w) : xs.length ≤ c := by
 obtain ⟨C, hC1, hown, -⟩ := h.cells
 exact own_cap hown
def CapsAt (l : List Value) (m : Mo) : Prop := ∀ Ai ci Ad cd, l = [.string m.name, .slice Ai m.imps.length ci, .slice Ad m.decs.length cd] → m.imps.length ≤ ci ∧ m.decs.length ≤ cd
theorem CapsAt.of {m : Mo} {Ai Ad : Option Addr} {ci nd cd : Nat} (h1 : m.imps.length ≤ ci) (h2 : m.decs.length ≤ cd) (hn : nd = m.decs.length) : CapsAt [.string m.name, .slice Ai m.imps.length ci, .slice Ad nd cd] m := by
 intro Ai' ci' Ad' cd' e
 subst hn
 simp only [List.cons.injEq, Value.slice.injEq, and_true, true_and] at e
 omega
set_option maxRecDepth 100000 in
set_option maxHeartbeats 8000000 in
theorem copy7_any (m : Mo) (l : List Value) (w : World) (h : MoAt w l m) (hI : m.imps.length ≤ 100000) (hN : m.decs.length ≤ 100000) (hM : ∀ d ∈ m.decs, many d.typ ≤ 9000 ∧ shortT d.typ) :
  Calls Tryz.prog 12 #[.agg l.toArray] w fun e w' => ∃ l' : List Value, e = .returned (.agg l'.toArray) ∧ MoAt w' l' m ∧ CapsAt l' m ∧ Below w.heap.size w w' := by
 obtain ⟨An, cn, Ad, cd, rfl, z1, z2, z3, hIm, hDe⟩ := h
 have HZ : Hid (∀ x ∈ m.imps, x.pkg.size ≤ 9223372036854775807 ∧ x.mod.size ≤ 9223372036854775807 ∧ x.asn.size ≤ 9223372036854775807) := Lib.hid (fun x hx => by
  obtain ⟨i, hi⟩ := List.getElem?_of_mem hx
  obtain ⟨g, o, l, -, -, -, hE⟩ := hIm i x hi
  exact hE.2)
 obtain ⟨W3, hW3⟩ : ∃ W3, W3 = ((w.alloc (.cells #[.string m.name, .slice An m.imps.length cn, .slice Ad m.decs.length cd] 33)).alloc (.cells #[.string ⟨#[]⟩, .slice none 0 0, .slice none 0 0] 33)).alloc (.cells #[] 73) := ⟨_, rfl⟩
 have e1 : (w.alloc (.cells #[.string m.name, .slice An m.imps.length cn, .slice Ad m.decs.length cd] 33)).heap.size = w.heap.size + 1 := by simp
 have e2 : ((w.alloc (.cells #[.string m.name, .slice An m.imps.length cn, .slice Ad m.decs.length cd] 33)).alloc (.cells #[.string ⟨#[]⟩, .slice none 0 0, .slice none 0 0] 33)).heap.size = w.heap.size + 1 + 1 := by simp
 have B3 : Hid (Below w.heap.size w W3) := Lib.hid (by rw [hW3]; exact below_new (below_new (below_new (Below.refl _ _) _) _) _)
 have X3 : Hid (Mx w.heap.size m.name An m.imps.length cn Ad m.decs.length cd W3) := Lib.hid (by
  show W3.heap[w.heap.size]? = _
  rw [hW3, Lib.alloc_old _ _ _ (by rw [e2]; omega), Lib.alloc_old _ _ _ (by rw [e1]; omega)]; exact heap_alloc_new w _)
 have R3 : Hid (Mx (w.heap.size + 1) ⟨#[]⟩ none 0 0 none 0 0 W3) := Lib.hid (by
  show W3.heap[w.heap.size + 1]? = _
  rw [hW3, Lib.alloc_old _ _ _ (by rw [e2]; omega), ← e1]; exact heap_alloc_new _ _)
 have O3 : Hid (W3.ownsRow (w.heap.size + 2) 73 4 (.slice (some ⟨w.heap.size + 1 + 1, 0, none⟩) 0 0) 0 []) := Lib.hid (by
  rw [hW3]
  have := World.ownsRow_lit (base := w.heap.size + 2) (e := 73) (size := 4) ((w.alloc (.cells #[.string m.name, .slice An m.imps.length cn, .slice Ad m.decs.length cd] 33)).alloc (.cells #[.string ⟨#[]⟩, .slice none 0 0, .slice none 0 0] 33)) #[] 0 (by rw [e2]; omega) (by decide) rfl
  rw [e2] at this
  exact this)
 have s3 : w.heap.size + 2 ≤ W3.heap.size := by rw [hW3]; simp
 have HIM := Lib.hid (hIm.below B3.out)
 have HDE := Lib.hid hDe
 have HB3 := B3
 have HW3 := Lib.hid hW3
 have HM := Lib.hid hM
 clear hW3 hIm hDe e1 e2 hM
 obtain ⟨nd, hnd⟩ : ∃ nd, nd = m.decs.length := ⟨_, rfl⟩
 rw [← hnd] at HW3 X3 hN z3
 have HND := Lib.hid hnd
 rw [← hnd]
 clear hnd
 obtain ⟨i0, hi, hz0, hz1, hz2⟩ := info_parts imp_info
 go_enter Tryz.func12, Tryz.ntmps12
 go_upto_region 1 with fail
 go_cut [9] (fun s9 wx => ∃ (Ai : Option Addr) (ci : Nat), Cq1 w m Ai ci Ad nd cd wx)
 case first =>
  cases An with
  | none =>
   have hn0 : m.imps = [] := by
    cases hm : m.imps with
    | nil => rfl
    | cons x r =>
     obtain ⟨g, o, l, e, -⟩ := HIM.out 0 x (by rw [hm]; rfl)
     cases e
   have MADE := Lib.hid (Cq1.empty w m Ad nd cd hn0)
   have hlen0 : m.imps.length = 0 := by rw [hn0]; rfl
   clear hn0
   go_wp2_with fail
   go_meet
   exact ⟨_, _, MADE.out⟩
  | some ad =>
   have own0 := O3.out
   have hnews : ∀ j u, (m.imps.map imL).flatten[j]? = some u → W3.cell? (ad.add j) = some u := by
    intro j u hj
    have hlt := (List.getElem?_eq_some_iff.1 hj).1
    rw [imps_flat] at hlt
    have hx : m.imps[j / 4]? = some m.imps[j / 4] := List.getElem?_eq_getElem (by omega)
    obtain ⟨g, o, l, e, hg, hc, hE⟩ := HIM.out _ _ hx
    obtain rfl := Option.some.inj e
    rw [WideShapes.add_plain]
    have hl : (m.imps.map imL)[j / 4]? = some (imL m.imps[j / 4]) := by rw [List.getElem?_map, hx]; rfl
    have hf := flatk_at (k := 4) (m.imps.map imL) (fun l hl => by obtain ⟨x, -, rfl⟩ := List.mem_map.1 hl; rfl) (j / 4) (j % 4) _ hl (by omega)
    rw [show j / 4 * 4 + j % 4 = j by omega, hj] at hf
    have := hc (j % 4) u (by rw [hE.1]; exact hf.symm)
    rw [show o + j / 4 * imR.k + j % 4 = o + j by show o + j / 4 * 4 + j % 4 = o + j; omega] at this
    exact this
   have hone : ∀ u ∈ (m.imps.map imL).flatten, u.oneCell' = true := by
    intro u hu
    obtain ⟨l, hl, hu⟩ := List.mem_flatten.1 hu
    obtain ⟨x, -, rfl⟩ := List.mem_map.1 hl
    simp [imL] at hu
    rcases hu with rfl | rfl | rfl | rfl <;> rfl
   have hbase := s3
   rw [HW3.out] at own0 hnews hbase
   have hfl := imps_flat m.imps
   go_wp2_with (at_builtin; refine wpList_append_own_at _ rfl _ _ 30 rfl (w.heap.size + 2) 73 i0 _ 4 56 Tryz.underlying30 hi hz0 hz1 hz2 rfl (by decide) _ 0 [] rfl own0 ad m.imps.length cn (m.imps.map imL).flatten rfl ?c0 hnews hone ?c3 ?c4 hbase ?_)
   case c0 => exact hfl
   case c3 => unfold maxLen; omega
   case c4 => omega
   intro v5 w4 hown hgrow _ hat
   rw [← HW3.out] at hgrow
   have hown2 : w4.ownsRow (w.heap.size + 2) 73 4 v5 m.imps.length (m.imps.map imL).flatten := by first | exact hown | simpa using hown
   clear hown
   obtain ⟨A5, c5, rfl⟩ := own_slice hown2
   have b4 : Mx w.heap.size m.name (some ad) m.imps.length cn Ad nd cd w4 := (hgrow.block w.heap.size (by omega) (by simp [Value.ownBlock]; omega)).trans X3.out
   have r4 : Mx (w.heap.size + 1) ⟨#[]⟩ none 0 0 none 0 0 w4 := (hgrow.block (w.heap.size + 1) (by omega) (by simp [Value.ownBlock])).trans R3.out
   have B4 : Below w.heap.size w w4 := B3.out.trans ⟨hgrow.os, hgrow.tape, hgrow.output, hgrow.size, fun b hb => hgrow.block b (by omega) (by simp [Value.ownBlock]; omega)⟩
   have MD := Lib.hid (Cq1.made B4 b4 r4 (row_imps hown2 HZ.out))
   have x1 := Lib.cell_of_heap b4 1
   have f1 := Lib.frozen_of_heap b4 1
   simp at x1
   clear hgrow hown2 hat b4 r4 B4 hnews hbase own0
   go_wp2_with fail
   go_meet
   exact ⟨_, _, MD.out⟩
 case rest =>
  obtain ⟨Ai, ci, h1⟩ := hcut
  have x2 := Lib.cell_of_heap h1.box 2
  have f2 := Lib.frozen_of_heap h1.box 2
  simp at x2
  have HCI : Hid (m.imps.length ≤ ci) := Lib.hid h1.row.cap
  obtain ⟨l2, hl2, START⟩ := h1.start'
  clear h1 B3 X3 R3 O3 HW3 HIM
  go_wp2_with fail
  clear x2 f2
  go_loopw [4] (fun iv wr => ∃ (xs : List De) (A6 : Option Addr) (c6 : Nat), xs.length ≤ nd ∧ iv = .int .i64 xs.length ∧ Hid (xs = m.decs.take xs.length) ∧ Hid (Cq w l2 m Ai ci xs A6 c6 wr)) (fun iv _ => nd - (intOf iv).toNat)
  case atStart => exact ⟨[], none, 0, by simp, rfl, Lib.hid rfl, START⟩
  case round =>
   obtain ⟨xs, A6, c6, hj, rfl, HXS, HC⟩ := hrel
   obtain ⟨wo, rfl⟩ : ∃ wo : World, wo = wr := ⟨_, rfl⟩
   have hkl : w.heap.size + 1 < wo.heap.size := (Array.getElem?_eq_some_iff.1 HC.out.res).1
   clear START
   by_cases hlt : xs.length < nd
   ·obtain ⟨x, hx⟩ : ∃ x, m.decs[xs.length]? = some x := ⟨_, List.getElem?_eq_getElem (by rw [← HND.out]; exact hlt)⟩
    obtain ⟨g, o, v0, v1, v2, v3, v4, v5, v6, rfl, hg, a0, a1, u0, u1, u2, u3, u4, u5, u6, us, zs⟩ := RowIn.de (HDE.out.below HC.out.below) hx
    obtain ⟨Bn, cB, Bs, dB, ev, -⟩ := us.parts
    simp only [List.cons.injEq, and_true] at ev
    obtain ⟨rfl, rfl, rfl, rfl, rfl, rfl, rfl⟩ := ev
    obtain ⟨w8, hw8⟩ : ∃ w8, w8 = wo.alloc (.cells #[.int .i64 x.kind, .string x.name, .int .i64 x.typ.kind, .string x.typ.pkg, .int .i64 x.typ.major, .string x.typ.mod, .string x.typ.name, .slice Bn x.typ.names.length cB, .slice Bs x.typ.subs.length dB] 47) := ⟨_, rfl⟩
    have B8 : Below wo.heap.size wo w8 := by rw [hw8]; exact below_new (Below.refl _ _) _
    have Y8 : Dx wo.heap.size x.kind x.name [.int .i64 x.typ.kind, .string x.typ.pkg, .int .i64 x.typ.major, .string x.typ.mod, .string x.typ.name, .slice Bn x.typ.names.length cB, .slice Bs x.typ.subs.length dB] w8 := by rw [hw8]; exact heap_alloc_new wo _
    have s8 : w8.heap.size = wo.heap.size + 1 := by rw [hw8]; simp
    have CPY := Lib.hid (copy_any _ x.typ (Nat.le_refl _) (HM.out x (List.mem_of_getElem? hx)).1 (HM.out x (List.mem_of_getElem? hx)).2 (.agg #[.int .i64 x.typ.kind, .string x.typ.pkg, .int .i64 x.typ.major, .string x.typ.mod, .string x.typ.name, .slice Bn x.typ.names.length cB, .slice Bs x.typ.subs.length dB]) w8 (TyV.below ⟨_, rfl, us⟩ B8))
    have HU : Hid (w8.cell? ⟨g, o + xs.length * 9 + 2, none⟩ = some (.int .i64 x.typ.kind) ∧ w8.cell? ⟨g, o + xs.length * 9 + 2 + 1, none⟩ = some (.string x.typ.pkg) ∧ w8.cell? ⟨g, o + xs.length * 9 + 2 + 2, none⟩ = some (.int .i64 x.typ.major) ∧ w8.cell? ⟨g, o + xs.length * 9 + 2 + 3, none⟩ = some (.string x.typ.mod) ∧ w8.cell? ⟨g, o + xs.length * 9 + 2 + 4, none⟩ = some (.string x.typ.name) ∧ w8.cell? ⟨g, o + xs.length * 9 + 2 + 5, none⟩ = some (.slice Bn x.typ.names.length cB) ∧ w8.cell? ⟨g, o + xs.length * 9 + 2 + 6, none⟩ = some (.slice Bs x.typ.subs.length dB)) := Lib.hid
     ⟨(B8.cell (p := ⟨g, _, none⟩) hg).trans u0, (B8.cell (p := ⟨g, _, none⟩) hg).trans u1, (B8.cell (p := ⟨g, _, none⟩) hg).trans u2, (B8.cell (p := ⟨g, _, none⟩) hg).trans u3, (B8.cell (p := ⟨g, _, none⟩) hg).trans u4, (B8.cell (p := ⟨g, _, none⟩) hg).trans u5, (B8.cell (p := ⟨g, _, none⟩) hg).trans u6⟩
    have HY8 := Lib.hid Y8
    have HB8 := Lib.hid B8
    have HW8 := Lib.hid hw8
    have HX := Lib.hid hx
    clear hx us B8 Y8 hw8
    go_upto_region 8 with fail
    rw [← HW8.out]
    clear a0 a1 u0 u1 u2 u3 u4 u5 u6
    obtain ⟨u0, u1, u2, u3, u4, u5, u6⟩ := HU.out
    go_wp2_with fail
    refine CPY.out.mono ?_; rintro e w9 ⟨l1, rfl, hT9, hb9⟩
    obtain ⟨Cn, cC, Cs, dC, rfl, -⟩ := hT9.parts
    have hs9 := hb9.size
    have Y9 : Dx wo.heap.size x.kind x.name [.int .i64 x.typ.kind, .string x.typ.pkg, .int .i64 x.typ.major, .string x.typ.mod, .string x.typ.name, .slice Bn x.typ.names.length cB, .slice Bs x.typ.subs.length dB] w9 := (hb9.block _ (by omega)).trans HY8.out
    obtain ⟨wa, hwa⟩ : ∃ wa, wa = w9.setCells wo.heap.size 2 [.int .i64 x.typ.kind, .string x.typ.pkg, .int .i64 x.typ.major, .string x.typ.mod, .string x.typ.name, .slice Cn x.typ.names.length cC, .slice Cs x.typ.subs.length dC] := ⟨_, rfl⟩
    have Ya : Dx wo.heap.size x.kind x.name [.int .i64 x.typ.kind, .string x.typ.pkg, .int .i64 x.typ.major, .string x.typ.mod, .string x.typ.name, .slice Cn x.typ.names.length cC, .slice Cs x.typ.subs.length dC] wa := by rw [hwa]; exact Y9.put
    have oa : ∀ b, b ≠ wo.heap.size → wa.heap[b]? = w9.heap[b]? := fun b hb => by rw [hwa]; exact setCells7_other rfl hb
    have sa : wa.heap.size = w9.heap.size := by rw [hwa]; exact setCells7_size rfl
    have Ba : Below wo.heap.size wo wa := by rw [hwa]; exact below_cells7 (below_over HB8.out hb9) rfl (Nat.le_refl _)
    have Ca := Lib.hid (HC.out.keep Ba)
    have Ta : Hid (TyAt (strike (· < wo.heap.size + 1) wa) [.int .i64 x.typ.kind, .string x.typ.pkg, .int .i64 x.typ.major, .string x.typ.mod, .string x.typ.name, .slice Cn x.typ.names.length cC, .slice Cs x.typ.subs.length dC] x.typ) := Lib.hid (hT9.move (by omega) fun b hb hS => ⟨by omega, oa b (by omega)⟩)
    have TH := Y9.there
    have HWA := Lib.hid hwa
    have HYa := Lib.hid Ya
    have hsa : wo.heap.size + 1 ≤ wa.heap.size := by omega
    clear hwa Y9 Ya oa sa Ba hT9 hb9 CPY HY8 HB8 HW8 HU u0 u1 u2 u3 u4 u5 u6 hs9 s8
    go_upto_region 9 with (first | ((with_reducible refine wpList_putMid 45 wo.heap.size 2 #[.int .i64 x.typ.kind, .string x.typ.pkg, .int .i64 x.typ.major, .string x.typ.mod, .string x.typ.name, .slice Cn x.typ.names.length cC, .slice Cs x.typ.subs.length dC] ?_ ?_ ?_ ?_ ?_ ?_); exact TH; exact tySize; exact tyOne; rfl; rfl))
    rw [← HWA.out]
    clear TH HWA
    have Ya := HYa.out
    have x0 := Lib.cell_of_heap Ya 0
    have x1 := Lib.cell_of_heap Ya 1
    have x2 := Lib.cell_of_heap Ya 2
    have x3 := Lib.cell_of_heap Ya 3
    have x4 := Lib.cell_of_heap Ya 4
    have x5 := Lib.cell_of_heap Ya 5
    have x6 := Lib.cell_of_heap Ya 6
    have x7 := Lib.cell_of_heap Ya 7
    have x8 := Lib.cell_of_heap Ya 8
    simp at x0 x1 x2 x3 x4 x5 x6 x7 x8
    have y2 := Lib.cell_of_heap Ca.out.box 2
    simp at y2
    obtain ⟨C, hC1, hown, hC4⟩ := Ca.out.rows.cells
    obtain ⟨inf, hi1', hy0, hy1, hy2⟩ := info_parts dec_info
    have hMX : xs.length + 1 ≤ maxLen := by unfold maxLen; omega
    have hwo : ∀ b, (Value.slice A6 xs.length c6).ownBlock = some b → b < wo.heap.size + 1 := fun b e => by have := (HC.out.rows.lt e).2; omega
    have hl2' := HC.out.lole
    have hAL : ∀ oo, l2 ≤ (wa.alloc oo).heap.size := fun oo => by have e1 : (wa.alloc oo).heap.size = wa.heap.size + 1 := (by simp); omega
    clear Ya
    go_wp2_with (first | (refine wpList_append_lies _ rfl (.tmp 32) (.tmp 34) 31 rfl l2 47 inf _ 9 136 Tryz.underlying31 hi1' hy0 hy1 hy2 (by rfl) (Nat.zero_lt_succ 8) (.slice A6 xs.length c6) xs.length _ rfl (hown.alloc _) ⟨wa.heap.size, 0, none⟩ 1 1 [.int .i64 x.kind, .string x.name, .int .i64 x.typ.kind, .string x.typ.pkg, .int .i64 x.typ.major, .string x.typ.mod, .string x.typ.name, .slice Cn x.typ.names.length cC, .slice Cs x.typ.subs.length dC] rfl rfl (fun q u hq => by rw [WideShapes.add_plain, Nat.zero_add, Lib.cell_of_heap (heap_alloc_new wa _), ← hq, ← List.getElem?_toArray]) (fun u hu => by simp at hu; rcases hu with rfl | rfl | rfl | rfl | rfl | rfl | rfl | rfl | rfl <;> rfl) Nat.one_pos hMX (by omega) (hAL _) _ rfl ?_; intro gb cap w5 hown5 hgrow hat hlt5; obtain ⟨ROW9, Y9, old9, bel9, z9, e9, hs9⟩ := row_more (R := deR) (x := x) (k := 2) Ca.out.rows (B := wo.heap.size + 1) (by omega) hsa hwo hC1 hC4 ⟨zs, _, rfl, Ta.out⟩ hown5 hgrow hat (by omega) Ca.out.box rfl; clear hown5 hgrow hat hlt5))
    have hlen9 : (xs ++ [x]).length = xs.length + 1 := by simp
    have INV9 : Hid (Cq w l2 m Ai ci (xs ++ [x]) (some ⟨gb, 0, none⟩) cap (w5.setCell ⟨w.heap.size, 2, none⟩ (.slice (some ⟨gb, 0, none⟩) (xs.length + 1) cap))) := Lib.hid
     ⟨Ca.out.below.trans (bel9 _ (Nat.le_refl _)), by rw [hlen9]; exact Y9, (old9 _ (by omega) (by omega)).trans Ca.out.res, Ca.out.ims.move hs9 (fun b hb hS => ⟨hS, old9 b (by omega) (by omega)⟩), ROW9, by have := Ca.out.lole; omega⟩
    have XS9 : Hid (xs ++ [x] = m.decs.take (xs ++ [x]).length) := Lib.hid (by rw [hlen9, List.take_add_one, HX.out, ← HXS.out]; rfl)
    clear ROW9 Y9 old9 bel9 z9 e9 hs9 hC1 hown hC4 hi1' hy0 hy1 hy2 hMX hwo hAL
    go_wp2_with fail
    go_roundw
    case rel => exact ⟨xs ++ [x], some ⟨gb, 0, none⟩, cap, by omega, by rw [hlen9]; go_num, XS9, INV9⟩
    case measure => simp [intOf]; omega
   ·have hxs : xs = m.decs := by
     have h := HXS.out
     rw [h, List.take_of_length_le (by rw [← HND.out]; omega)]
    obtain ⟨R, hR⟩ : ∃ R, R = m.decs := ⟨_, rfl⟩
    have y0 := Lib.cell_of_heap HC.out.box 0
    have y1 := Lib.cell_of_heap HC.out.box 1
    have y2 := Lib.cell_of_heap HC.out.box 2
    simp at y0 y1 y2
    have X9 : wo.heap[w.heap.size + 1]? = some (.cells #[.string ⟨#[]⟩, .slice none 0 0, .slice none 0 0] 33 (0, 0)) := HC.out.res
    have mv : ∀ b, b ≠ w.heap.size + 1 → (wo.setRow (w.heap.size + 1) #[.string m.name, .slice Ai m.imps.length ci, .slice A6 xs.length c6]).heap[b]? = wo.heap[b]? := fun b hb => setRow_other wo (w.heap.size + 1) b _ hb
    have FIN : Hid (MoAt (wo.setRow (w.heap.size + 1) #[.string m.name, .slice Ai m.imps.length ci, .slice A6 xs.length c6]) [.string m.name, .slice Ai m.imps.length ci, .slice A6 xs.length c6] m) := Lib.hid
     ⟨Ai, ci, A6, c6, by rw [← hxs], z1, by omega, by rw [← hxs]; omega,
      (HC.out.ims.move (S' := fun b => b < w.heap.size + 2) (by simp) fun b hb hS => ⟨fun e => hS (.inl e), mv b (fun e => hS (.inl (by omega)))⟩).free,
      by rw [← hxs]; exact ((HC.out.rows.done (Nat.le_refl _)).move (S' := fun b => b < l2) (by simp) fun b hb hS => ⟨hS, mv b (by omega)⟩).free⟩
    have FB : Hid (Below w.heap.size w (wo.setRow (w.heap.size + 1) #[.string m.name, .slice Ai m.imps.length ci, .slice A6 xs.length c6])) := Lib.hid (setRow_below HC.out.below (by omega) _)
    have FC : Hid (CapsAt [.string m.name, .slice Ai m.imps.length ci, .slice A6 xs.length c6] m) := Lib.hid (CapsAt.of HCI.out (by rw [← hxs]; exact HC.out.rows.cap) (by rw [hxs]))
    have HX9 := Lib.hid X9
    clear mv HC hxs
    go_upto_region 10 with fail
    go_wp2_with (first | ((with_reducible refine wpList_putRow 33 (w.heap.size + 1) #[.string m.name, .slice Ai m.imps.length ci, .slice A6 xs.length c6] _ _ X9 ?_ ?_ ?_ ?_ ?_ ?_); exact modSize; rfl; exact modOne; (focus (first | (go_simp; done) | rfl)); (focus (first | (go_simp; done) | rfl))))
    exact ret_agg1 (fn := Tryz.f12) (vs := [.string m.name, .slice Ai m.imps.length ci, .slice A6 xs.length c6]) (b := w.heap.size + 1) rfl rfl Tryz.underlying33 (by kernel_rfl) (cell3 (setRow_heap _ (w.heap.size + 1) _ _ _ _ HX9.out)) rfl ⟨_, rfl, FIN.out, FC.out, FB.out⟩
end Go.Proofs.YtcdmgcgjonndpaaGreat

/-  -/
namespace Go.Proofs.YtcdmgcgjonndpaaGreat
open Go Go.ChangeShapes Go.WideShapes Go.ChangeAt Go.RowKit Go.Joins Go.Deep
open M
section
variable {H : Type} {enc : TypeId × Value → H} {w : World} {base : Nat} {sp : Nat → Bool} {held : Bool}
theorem open_rows7 {α : Type} (R : Reads α) (st : TypeId) (a0 : α) (ht : Tryz.prog.underlying st = some (.slice R.T)) (hk : Tryz.prog.cellsOf R.T = R.k) (hpos : 0 < R.k)
    (hE : ∀ (n : Nat) (cs : List Value) (x : DataW H × List MemPlace), DataW.trod enc Tryz.prog w base sp held n R.T cs = some x → ∃ a, R.E w cs a)
    {fuel : Nat} {v : Value} {x : DataW H × List MemPlace} (h : DataW.trod enc Tryz.prog w base sp held fuel st [v] = some x) : ∃ (A : Option Addr) (c : Nat) (l : List α), v = .slice A l.length c ∧ l.length ≤ maxLen ∧ l.length ≤ c ∧ RowIn R w A l := by
  rcases DataW.trod_slice ht h with ⟨hc, -⟩ | ⟨a', len, cap, elems, rest, n', hn', hc, -, -, hl, hm, hlen', hel, -, -⟩
  · obtain rfl := List.head_eq_of_cons_eq hc
    exact ⟨none, 0, [], rfl, Nat.zero_le _, Nat.zero_le _, fun i x hx => by simp at hx⟩
  · obtain rfl := List.head_eq_of_cons_eq hc
    rw [hk] at hel
    have hall : ∀ i, ∃ q : α × List Value, i < len → w.cells? base (a'.add (i * R.k)) R.k = some q.2 ∧ R.E w q.2 q.1 := by
      intro i
      by_cases hi : i < len
      · have h1 := hel i hi
        rw [List.getElem?_eq_getElem (by rw [hlen']; exact hi)] at h1
        obtain ⟨cs', h2, h3⟩ := Option.bind_eq_some_iff.1 h1
        obtain ⟨t, ht⟩ := hE n' cs' _ h3
        exact ⟨(t, cs'), fun _ => ⟨h2, ht⟩⟩
      · exact ⟨(a0, []), fun h => absurd h hi⟩
    obtain ⟨F, hF⟩ := Classical.axiomOfChoice hall
    clear hall hel hE
    have hsome : ∀ i t, ((List.range len).map fun i => (F i).1)[i]? = some t → i < len ∧ t = (F i).1 := by
      intro i t ht
      rw [List.getElem?_map] at ht
      rcases Nat.lt_or_ge i len with hi | hi
      · rw [List.getElem?_range hi] at ht
        exact ⟨hi, (Option.some.inj ht).symm⟩
      · rw [List.getElem?_eq_none (by simpa using hi)] at ht
        cases ht
    have hle : ((List.range len).map fun i => (F i).1).length = len := by simp
    refine ⟨some a', cap, (List.range len).map fun i => (F i).1, by rw [hle], by rw [hle]; exact Nat.le_trans hl hm, by rw [hle]; exact hl, fun i t ht => ?_⟩
    obtain ⟨hi, rfl⟩ := hsome i t ht
    obtain ⟨b, o, spot⟩ := a'
    have hat := (World.cells?_some (hF i hi).1).2.2
    have hlk := R.len _ _ _ (hF i hi).2
    have hspot : spot = none := by
      have hc := (World.cells?_some (hF 0 (by omega)).1).2.2 0 hpos
      rw [List.getElem?_eq_getElem (by rw [R.len _ _ _ (hF 0 (by omega)).2]; exact hpos)] at hc
      have := World.cell?_spot hc
      simpa [Addr.add] using this
    subst hspot
    have hcell : ∀ j v, (F i).2[j]? = some v → w.cell? ⟨b, o + i * R.k + j, none⟩ = some v := by
      intro j v hv
      have hj : j < R.k := by
        have := (List.getElem?_eq_some_iff.1 hv).1
        rw [hlk] at this; exact this
      have := hat j hj
      rw [WideShapes.add_plain, WideShapes.add_plain] at this
      rw [this]; exact hv
    exact ⟨b, o, (F i).2, rfl, World.block_lt_of_cell? w _ (hcell 0 _ (List.getElem?_eq_getElem (by rw [hlk]; exact hpos))), hcell, (hF i hi).2⟩
set_option maxRecDepth 100000 in
set_option maxHeartbeats 2000000 in
theorem open_module7 {r : Go.Reach} {b0 : Nat} {v : Value} {d : DataW H} {p : List MemPlace} (hv : Value.okWide Tryz.prog w r b0 33 v) (h : DataW.Trod enc Tryz.prog w base sp held 33 v d p) : ∃ l m, v = .agg l.toArray ∧ MoAt w l m ∧ CapsAt l m := by
  obtain ⟨cs, rfl, -⟩ := okWide_struct Tryz.underlying33 hv
  obtain ⟨fuel, hf⟩ := h
  obtain ⟨cl⟩ := cs
  obtain ⟨xs, n, hfuel, -, hlen, hxl, hf⟩ := DataW.trod_struct Tryz.underlying33 hf
  rw [modCells] at hlen
  obtain ⟨c0, c1, c2, hcl⟩ := list3' cl hlen
  subst hcl
  have q : ∀ j, j < 3 → ∃ y, xs[j]? = some y := fun j hj => ⟨_, List.getElem?_eq_getElem (by rw [hxl]; exact hj)⟩
  obtain ⟨y0, e0⟩ := q 0 (by omega); obtain ⟨y1, e1⟩ := q 1 (by omega); obtain ⟨y2, e2⟩ := q 2 (by omega)
  have g0 : DataW.trod enc Tryz.prog w base sp held n 9 (([c0, c1, c2].drop 0).take (Tryz.prog.cellsOf 9)) = some y0 := (hf 0 _ rfl).trans e0
  have g1 : DataW.trod enc Tryz.prog w base sp held n 30 (([c0, c1, c2].drop 1).take (Tryz.prog.cellsOf 30)) = some y1 := (hf 1 _ rfl).trans e1
  have g2 : DataW.trod enc Tryz.prog w base sp held n 31 (([c0, c1, c2].drop 2).take (Tryz.prog.cellsOf 31)) = some y2 := (hf 2 _ rfl).trans e2
  rw [tyCellsStr] at g0
  rw [modCellsI] at g1
  rw [modCellsD] at g2
  have h1 : DataW.trod enc Tryz.prog w base sp held n 30 [c1] = some y1 := g1
  have h2 : DataW.trod enc Tryz.prog w base sp held n 31 [c2] = some y2 := g2
  obtain ⟨s, k0, -, z0⟩ := DataW.trod_string Tryz.underlying9 g0
  simp at k0
  subst k0
  obtain ⟨Ai, ci, li, rfl, hli, kI, hI⟩ := open_rows7 imR 30 ⟨⟨#[]⟩, 0, ⟨#[]⟩, ⟨#[]⟩⟩ Tryz.underlying30 impCells (by decide) open_im h1
  obtain ⟨Ad, cd, ld, rfl, hld, kD, hD⟩ := open_rows7 deR 31 ⟨0, ⟨#[]⟩, noT⟩ Tryz.underlying31 decCells (by decide) open_de h2
  unfold maxLen at z0 hli hld
  exact ⟨_, ⟨s, li, ld⟩, rfl, ⟨Ai, ci, Ad, cd, rfl, z0, hli, hld, hI, hD⟩, CapsAt.of (m := ⟨s, li, ld⟩) kI kD rfl⟩
end
end Go.Proofs.YtcdmgcgjonndpaaGreat

/-  -/
namespace Go.Proofs.YtcdmgcgjonndpaaGreat
open Go.RowKit
open M
end Go.Proofs.YtcdmgcgjonndpaaGreat

/-  -/
namespace Go.Proofs.YtcdmgcgjonndpaaGreat
open Go.RowKit
open Go.Sort
open M
def fewD (d : De) : Bool := fewB d.typ && decide (d.name.size ≤ 500)
def fewM (m : Mo) : Bool := decide (m.name.size ≤ 500) && (decide (m.imps.length ≤ 100) && (decide (m.decs.length ≤ 100) && m.decs.all fewD))
theorem all_one {α : Type} (p : α → Bool) (l : List α) (j : Nat) (x : α) (h : l[j]? = some x) (hp : p x = false) : l.all p = false := by
  rw [List.all_eq_false]
  exact ⟨x, List.mem_of_getElem? h, by rw [hp]; decide⟩
set_option maxRecDepth 100000 in
set_option maxHeartbeats 8000000 in
theorem rfew6_any (m : Mo) (l : List Value) (w : World) (h : MoAt w l m) : Calls Tryz.prog 11 #[.agg l.toArray] w fun e w' => e = .returned (.bool (fewM m)) ∧ Below w.heap.size w w' := by
  obtain ⟨Ai, ci, Ad, cd, rfl, z1, z2, z3, hI, hD⟩ := h
  obtain ⟨w0, hw0⟩ : ∃ w0, w0 = w.alloc (.cells #[.string m.name, .slice Ai m.imps.length ci, .slice Ad m.decs.length cd] 33) := ⟨_, rfl⟩
  have B0 : Below w.heap.size w w0 := by rw [hw0]; exact below_new (Below.refl _ _) _
  have O0 : w0.heap[w.heap.size]? = some (.cells #[.string m.name, .slice Ai m.imps.length ci, .slice Ad m.decs.length cd] 33 (0, 0)) := by rw [hw0]; exact heap_alloc_new w _
  have hl0 : w.heap.size < w0.heap.size := by rw [hw0]; simp
  obtain ⟨V, hV⟩ : ∃ V, fewM m = V := ⟨_, rfl⟩
  rw [hV]
  have HV : Hid ((decide (m.name.size ≤ 500) && (decide (m.imps.length ≤ 100) && (decide (m.decs.length ≤ 100) && m.decs.all fewD))) = V) := Lib.hid hV
  obtain ⟨ni, hni⟩ : ∃ ni, ni = m.imps.length := ⟨_, rfl⟩
  obtain ⟨nd, hnd⟩ : ∃ nd, nd = m.decs.length := ⟨_, rfl⟩
  rw [← hni] at z2 O0 hw0 HV
  rw [← hnd] at z3 O0 hw0 HV
  rw [← hni, ← hnd]
  have HND := Lib.hid hnd
  have HD := Lib.hid (hD.below B0)
  have x0 := Lib.cell_of_heap O0 0
  have x1 := Lib.cell_of_heap O0 1
  have x2 := Lib.cell_of_heap O0 2
  simp at x0 x1 x2
  have HO := Lib.hid O0
  have HB := Lib.hid B0
  have HW0 := Lib.hid hw0
  clear hV hI hD hw0 B0 O0 hni hnd
  by_cases h5 : 500 < m.name.size
  · have e1 : (500 : Int) < m.name.size := by omega
    have RV : V = false := by rw [← HV.out, show decide (m.name.size ≤ 500) = false by simp; omega]; rfl
    subst RV
    go_enter Tryz.func11, Tryz.ntmps11
    go_upto_region 1 with fail
    rw [← HW0.out]
    go_wp2_with fail
    go_ret
    exact ⟨rfl, HB.out⟩
  have e5 : ¬ (500 : Int) < m.name.size := by omega
  by_cases h1 : 100 < ni
  · have e1 : (100 : Int) < ni := by omega
    have RV : V = false := by rw [← HV.out, show decide (ni ≤ 100) = false by simp; omega]; simp
    subst RV
    go_enter Tryz.func11, Tryz.ntmps11
    go_upto_region 1 with fail
    rw [← HW0.out]
    go_wp2_with fail
    go_ret
    exact ⟨rfl, HB.out⟩
  have e1 : ¬ (100 : Int) < ni := by omega
  by_cases h2 : 100 < nd
  · have e2 : (100 : Int) < nd := by omega
    have RV : V = false := by rw [← HV.out, show decide (nd ≤ 100) = false by simp; omega]; simp
    subst RV
    go_enter Tryz.func11, Tryz.ntmps11
    go_upto_region 1 with fail
    rw [← HW0.out]
    go_wp2_with fail
    go_ret
    exact ⟨rfl, HB.out⟩
  have e2 : ¬ (100 : Int) < nd := by omega
  have HV1 : Hid (m.decs.all fewD = V) := Lib.hid (by
    rw [← HV.out, decide_eq_true (show m.name.size ≤ 500 by omega), decide_eq_true (show ni ≤ 100 by omega), decide_eq_true (show nd ≤ 100 by omega)]; rfl)
  clear HV h5 h1 h2
  go_enter Tryz.func11, Tryz.ntmps11
  go_upto_region 1 with fail
  rw [← HW0.out]
  clear HW0
  go_wp2_with fail
  clear e5 e1 e2
  go_loopw [3] (fun iv wr => ∃ j : Nat, j ≤ nd ∧ iv = .int .i64 j ∧ Hid ((m.decs.take j).all fewD = true) ∧ Below w0.heap.size w0 wr) (fun iv _ => nd - (intOf iv).toNat)
  case atStart => exact ⟨0, by omega, rfl, Lib.hid (by simp), Below.refl _ _⟩
  case round =>
    obtain ⟨j, hj, rfl, HQ, hb⟩ := hrel
    obtain ⟨wo, rfl⟩ : ∃ wo : World, wo = wr := ⟨_, rfl⟩
    have O := (hb.block _ hl0).trans HO.out
    have x2 := Lib.cell_of_heap O 2
    simp at x2
    by_cases hlt : j < nd
    · obtain ⟨x, hx⟩ : ∃ x, m.decs[j]? = some x := ⟨_, List.getElem?_eq_getElem (by rw [← HND.out]; exact hlt)⟩
      obtain ⟨g, o, v0, v1, v2, v3, v4, v5, v6, rfl, hg, a0, a1, u0, u1, u2, u3, u4, u5, u6, us, zs⟩ := (HD.out.below hb).de hx
      have FW := Lib.hid (fewB_any x.typ _ wo ⟨_, rfl, us⟩)
      have HX := Lib.hid hx
      have HBo := Lib.hid hb
      have HA1 := Lib.hid a1
      have HO2 := Lib.hid O
      clear hx us hb a0 a1 O
      go_wp2_with fail
      refine FW.out.mono ?_; rintro e w3 ⟨rfl, hb3⟩
      have a1 := (hb3.cell (p := ⟨g, _, none⟩) hg).trans HA1.out
      have x2 := Lib.cell_of_heap ((hb3.block _ (Array.getElem?_eq_some_iff.1 HO2.out).1).trans HO2.out) 2
      simp at x2
      have HB3 := Lib.hid (below_over HBo.out hb3)
      have FIN := Lib.hid (below_over HB.out HB3.out)
      obtain ⟨q, hq⟩ : ∃ q, fewB x.typ = q := ⟨_, rfl⟩
      rw [hq]
      have HQ2 := Lib.hid hq
      clear hb3 u0 u1 u2 u3 u4 u5 u6 hq FW HA1 HO2
      cases q with
      | false =>
        have RV : V = false := by rw [← HV1.out]; exact all_one _ _ _ _ HX.out (by unfold fewD; rw [HQ2.out]; rfl)
        subst RV
        go_wp2_with fail
        go_ret
        exact ⟨rfl, FIN.out⟩
      | true =>
        by_cases hn : 500 < x.name.size
        · have e1 : (500 : Int) < x.name.size := by omega
          have RV : V = false := by rw [← HV1.out]; exact all_one _ _ _ _ HX.out (by unfold fewD; rw [show decide (x.name.size ≤ 500) = false by simp; omega]; simp)
          subst RV
          go_wp2_with fail
          go_ret
          exact ⟨rfl, FIN.out⟩
        · have e1 : ¬ (500 : Int) < x.name.size := by omega
          have HN : Hid (x.name.size ≤ 500) := Lib.hid (by omega)
          clear hn
          go_wp2_with fail
          go_roundw
          case rel => exact ⟨j + 1, by omega, by go_num, Lib.hid (by rw [all_snoc _ _ _ _ HX.out, HQ.out]; unfold fewD; rw [HQ2.out, decide_eq_true HN.out]; rfl), HB3.out⟩
          case measure => simp [intOf]; omega
    · have RV : V = true := by rw [← HV1.out, ← HQ.out, List.take_of_length_le (by rw [← HND.out]; omega)]
      subst RV
      have FIN := Lib.hid (below_over HB.out hb)
      clear O
      go_wp2_with fail
      go_ret
      exact ⟨rfl, FIN.out⟩
end Go.Proofs.YtcdmgcgjonndpaaGreat

/-  -/
namespace Go.Proofs.YtcdmgcgjonndpaaGreat
open Go Go.RowKit
open Go.Sort
open M
section
variable {P : Program} (w : World)
theorem wp_append_own {o : Oper} {a : Act} {K : Act → World → Prop} {Q : Exit → Act → World → Prop} (s x : Operand) (t : TypeId)
    (ho : o.op = .call { callee := .builtin .append, args := #[s, x], argTypes := #[t, t] })
    (base : Nat) (e : TypeId) (i : TypeInfo) (z : Value) (size bytes : Nat) (ht : P.underlying t = some (.slice e)) (hi : P.info? e = some i) (hz : i.zero = some z)
    (hsize : i.size = size) (hby : i.bytes = bytes) (hzs : z.cells.size = size) (hsz : 0 < size)
    (v : Value) (n : Nat) (xs : List Value) (hs : a.eval s = v) (hown : w.ownsRow base e size v n xs)
    (ad : Addr) (m c : Nat) (news : List Value) (hx : a.eval x = .slice (some ad) m c) (hl : news.length = m * size) (hnews : ∀ j u, news[j]? = some u → w.cell? (ad.add j) = some u) (h1 : ∀ u ∈ news, u.oneCell' = true)
    (h63 : n + m ≤ maxLen) (hbytes : (n + m) * bytes ≤ 140737488355328) (hbase : base ≤ w.heap.size)
    (h : ∀ v' w', w'.ownsRow base e size v' (n + m) (xs ++ news) → w.grownBy w' v.ownBlock → (v'.ownBlock = v.ownBlock ∨ v'.ownBlock = some w.heap.size) → K (a.put o.dst v') w') : o.wp P a w K Q := by
  obtain ⟨v', w', hr, h2, h3, h4, h5⟩ := run_append_own_at (P := P) w base t o.type e i z size bytes ht hi hz hsize hby hzs hsz v n xs hown ad m c news hl hnews h1 h63 hbytes hbase
  unfold Oper.wp execOp
  simp only [ho, resolve, invoke, builtin, Sem.run_bind, Sem.run_pure, Result.andThen_ok, List.map_toArray, List.map_cons, List.map_nil, hs, hx, hr]
  exact h v' w' h2 h3 h5
end
theorem flatC_len {k : Nat} : ∀ (C : List (List Value)), (∀ l, l ∈ C → l.length = k) → C.flatten.length = C.length * k
  | [], _ => by simp
  | a :: r, h => by
    rw [List.flatten_cons, List.length_append, h a List.mem_cons_self, flatC_len r (fun l hl => h l (List.mem_cons_of_mem _ hl)), List.length_cons, Nat.succ_mul]
    omega
theorem RowIn.lists {α : Type} {R : Reads α} {w : World} {g o : Nat} {xs : List α} (hk : 0 < R.k) (h : RowIn R w (some ⟨g, o, none⟩) xs) :
    ∃ C : List (List Value), C.length = xs.length ∧ (∀ l, l ∈ C → l.length = R.k) ∧ (∀ (i : Nat) (l : List Value) (x : α), C[i]? = some l → xs[i]? = some x → R.E w l x) ∧
      ∀ (j : Nat) (u : Value), C.flatten[j]? = some u → w.cell? ⟨g, o + j, none⟩ = some u := by
  have hall : ∀ i : Fin xs.length, ∃ l : List Value, R.E w l xs[i] ∧ ∀ (j : Nat) (v : Value), l[j]? = some v → w.cell? ⟨g, o + i.1 * R.k + j, none⟩ = some v := fun i => by
    obtain ⟨g', o', l, hA, hg, hc, hE⟩ := h i.1 xs[i] (List.getElem?_eq_getElem i.2)
    cases hA
    exact ⟨l, hE, hc⟩
  obtain ⟨F, hF⟩ := Classical.axiomOfChoice hall
  have hat : ∀ (i : Nat) (l : List Value), (List.ofFn F)[i]? = some l → ∃ hi : i < xs.length, l = F ⟨i, hi⟩ := by
    intro i l hl
    rw [List.getElem?_ofFn] at hl
    split at hl
    · rename_i hi
      exact ⟨hi, (Option.some.inj hl).symm⟩
    · cases hl
  have hlen : ∀ l, l ∈ List.ofFn F → l.length = R.k := fun l hl => by
    obtain ⟨i, hi⟩ := List.mem_iff_getElem?.1 hl
    obtain ⟨hi', rfl⟩ := hat i l hi
    exact R.len _ _ _ (hF ⟨i, hi'⟩).1
  refine ⟨List.ofFn F, by simp, hlen, fun i l x hl hx => ?_, fun j u hu => ?_⟩
  · obtain ⟨hi, rfl⟩ := hat i l hl
    rw [List.getElem?_eq_getElem hi] at hx
    cases hx
    exact (hF ⟨i, hi⟩).1
  · have hj := (List.getElem?_eq_some_iff.1 hu).1
    rw [flatC_len _ hlen, List.length_ofFn] at hj
    have hi : j / R.k < xs.length := Nat.div_lt_of_lt_mul (by rw [Nat.mul_comm]; exact hj)
    have hl : (List.ofFn F)[j / R.k]? = some (F ⟨j / R.k, hi⟩) := by rw [List.getElem?_ofFn, dif_pos hi]
    have hf := flatk_at (List.ofFn F) hlen (j / R.k) (j % R.k) _ hl (Nat.mod_lt _ hk)
    have hd : j / R.k * R.k + j % R.k = j := by rw [Nat.mul_comm]; exact Nat.div_add_mod j R.k
    rw [hd, hu] at hf
    have := (hF ⟨j / R.k, hi⟩).2 (j % R.k) u hf.symm
    rwa [Nat.add_assoc, hd] at this
theorem flat_drop {k : Nat} {C : List (List Value)} (hC : ∀ l, l ∈ C → l.length = k) (a : Nat) (ha : a ≤ C.length) (j : Nat) : (C.drop a).flatten[j]? = C.flatten[a * k + j]? := by
  have h1 : C.flatten = (C.take a).flatten ++ (C.drop a).flatten := by rw [← List.flatten_append, List.take_append_drop]
  have h2 : (C.take a).flatten.length = a * k := by
    rw [flatC_len _ (fun l hl => hC l (List.mem_of_mem_take hl)), List.length_take, Nat.min_eq_left ha]
  rw [h1, List.getElem?_append_right (by omega), h2, Nat.add_sub_cancel_left]
theorem flat_take {C : List (List Value)} (a : Nat) (j : Nat) (u : Value) (h : (C.take a).flatten[j]? = some u) : C.flatten[j]? = some u := by
  have h1 : C.flatten = (C.take a).flatten ++ (C.drop a).flatten := by rw [← List.flatten_append, List.take_append_drop]
  rw [h1, List.getElem?_append_left (List.getElem?_eq_some_iff.1 h).1, h]
theorem RowIn.of_own {α : Type} {R : Reads α} {w : World} {lo c : Nat} {A : Option Addr} {xs : List α} {C : List (List Value)} (hown : w.ownsRow lo R.T R.k (.slice A xs.length c) xs.length C.flatten)
    (hl : C.length = xs.length) (hall : ∀ l, l ∈ C → l.length = R.k) (hE : ∀ (i : Nat) (l : List Value) (x : α), C[i]? = some l → xs[i]? = some x → R.E w l x) : RowIn R w A xs := by
  intro i x hx
  have hi := (List.getElem?_eq_some_iff.1 hx).1
  have hli : C[i]? = some C[i] := List.getElem?_eq_getElem (by omega)
  rcases hown.2 with ⟨e, -⟩ | ⟨g, cap, cur, hv, hB, hg, -, -, hcl, htake⟩
  · cases A with
    | none => simp at e; simp [e.1] at hi
    | some a => simp at e
  · simp at hv
    obtain ⟨rfl, -⟩ := hv
    refine ⟨g, 0, C[i], rfl, (Array.getElem?_eq_some_iff.1 hg).1, fun j v hv => ?_, hE i _ x hli hx⟩
    have hj := (List.getElem?_eq_some_iff.1 hv).1
    rw [hall _ (List.getElem_mem (by omega))] at hj
    have hf := flatk_at C hall i j _ hli hj
    rw [Lib.cell_of_heap hg, ← Array.getElem?_toList]
    have e2 : (cur.toList.take (xs.length * R.k))[i * R.k + j]? = C[i][j]? := by rw [htake, hf]
    rw [List.getElem?_take] at e2
    split at e2
    · rw [show 0 + i * R.k + j = i * R.k + j by omega, e2]; exact hv
    · rename_i hn
      have : (i + 1) * R.k ≤ xs.length * R.k := Nat.mul_le_mul_right _ hi
      rw [Nat.succ_mul] at this
      omega
theorem ty_one {w : World} {l : List Value} {t : Ty} (h : TyAt w l t) : ∀ u ∈ l, u.oneCell' = true := by
  obtain ⟨An, cn, As, cs, rfl, -⟩ := h.parts
  intro u hu
  simp at hu
  rcases hu with rfl | rfl | rfl | rfl | rfl | rfl | rfl <;> rfl
theorem de_one {w : World} {l : List Value} {d : De} (h : deE w l d) : ∀ u ∈ l, u.oneCell' = true := by
  obtain ⟨-, l7, rfl, hT⟩ := h
  intro u hu
  rcases List.mem_cons.1 hu with rfl | hu
  · rfl
  · rcases List.mem_cons.1 hu with rfl | hu
    · rfl
    · exact ty_one hT u hu
theorem small_size {s : ByteArray} (h : smallB s.data.toList = true) : s.size ≤ 20 := by
  unfold smallB at h
  rw [Bool.and_eq_true, spell_iff] at h
  rw [← len_size]; exact h.1.2.1
theorem great_size {s : ByteArray} (h : greatB s.data.toList = true) : s.size ≤ 20 := by
  unfold greatB at h
  rw [Bool.and_eq_true, spell_iff] at h
  rw [← len_size]; exact h.1.2.1
theorem mayD_name {d : De} (h : mayD d = true) : d.name.size ≤ 20 := by
  unfold mayD at h
  split at h
  · rw [Bool.and_eq_true] at h; exact great_size h.1
  · split at h
    · rw [Bool.and_eq_true] at h; exact great_size h.1
    · split at h
      · rw [Bool.and_eq_true] at h; exact small_size h.1
      · cases h
theorem mayM_parts {m : Mo} (h : mayM m = true) : m.imps.length ≤ 20 ∧ m.decs.length ≤ 60 ∧ (∀ x ∈ m.imps, mayI x = true) ∧ ∀ d ∈ m.decs, mayD d = true := by
  unfold mayM at h
  simp only [Bool.and_eq_true, decide_eq_true_eq, List.all_eq_true] at h
  exact ⟨h.2.1, h.2.2.1, h.2.2.2.1, h.2.2.2.2⟩
theorem MoAt.names {w : World} {l : List Value} {m : Mo} (h : MoAt w l m) : (∀ x ∈ m.imps, x.asn.size ≤ maxLen) ∧ ∀ d ∈ m.decs, d.name.size ≤ maxLen := by
  obtain ⟨Ai, ci, Ad, cd, -, -, -, -, hI, hD⟩ := h
  unfold maxLen
  refine ⟨fun x hx => ?_, fun d hd => ?_⟩
  · obtain ⟨i, hi⟩ := List.getElem?_of_mem hx
    obtain ⟨g, o, l, -, -, -, hE⟩ := hI i x hi
    have := hE.2.2.2
    omega
  · obtain ⟨i, hi⟩ := List.getElem?_of_mem hd
    obtain ⟨g, o, l, -, -, -, hs, -⟩ := hD i d hi
    omega
theorem few7 {m : Mo} (h : fewM m = true) : m.imps.length ≤ 100 ∧ m.decs.length ≤ 100 ∧ ∀ d ∈ m.decs, many d.typ ≤ 9000 ∧ shortT d.typ := by
  unfold fewM at h
  simp only [Bool.and_eq_true, List.all_eq_true, decide_eq_true_eq] at h
  refine ⟨h.2.1, h.2.2.1, fun d hm => ?_⟩
  have := h.2.2.2 d hm
  unfold fewD at this
  simp only [Bool.and_eq_true] at this
  have hs := few_small this.1
  exact ⟨by omega, few_short _ 3000 (of_decide_eq_true this.1)⟩
def CkAny (w : World) (m : Mo) (e : Ending) (w' : World) : Prop :=
  (mayM m = false ∧ e = .returned (.iface 60 (.int .i64 1))) ∨ (mayM m = true ∧ CkOut w m e w')
theorem check7_any (m : Mo) (l : List Value) (w : World) (h : MoAt w l m) (hM : ∀ d ∈ m.decs, many d.typ ≤ 9000) (hcap : CapsAt l m) :
    Calls Tryz.prog 27 #[.agg l.toArray] w fun e w' => CkAny w m e w' ∧ Below w.heap.size w w' := by
  cases hm : mayM m with
  | false =>
    refine (check7_no m l w h hm).mono ?_
    rintro e w' ⟨he, hb⟩
    exact ⟨.inl ⟨hm, he⟩, hb⟩
  | true =>
    refine (check7_yes m l w h hm h.names.1 (fun d hd => ⟨hM d hd, h.names.2 d hd⟩) hcap).mono ?_
    rintro e w' ⟨he, hb⟩
    exact ⟨.inr ⟨hm, he⟩, hb⟩
end Go.Proofs.YtcdmgcgjonndpaaGreat

/-  -/
namespace Go.Proofs.YtcdmgcgjonndpaaGreat
open Go.RowKit
open M
theorem fstN_neg {p : Nat → Bool} {n : Nat} : ¬ 0 ≤ fstN p n ↔ ∀ i, i < n → p i = false := by
  unfold fstN
  cases h : (List.range n).find? p with
  | none =>
    rw [List.find?_eq_none] at h
    constructor
    · intro _ i hi
      have := h i (List.mem_range.2 hi)
      simpa using this
    · intro _; simp
  | some i =>
    constructor
    · intro h2; exact absurd (Int.natCast_nonneg i) h2
    · intro h2
      have h3 := List.find?_some h
      have h4 := List.mem_range.1 (List.mem_of_find?_eq_some h)
      rw [h2 i h4] at h3; cases h3
structure Ok7 (m : Mo) : Prop where
  imp : ∀ i, i < m.imps.length → dupB (·.asn) m.imps i = false
  dec : ∀ i, i < m.decs.length → dupB (·.name) m.decs i = false
  whole : ∀ (i : Nat) (d : De), m.decs[i]? = some d → wholeT m d.typ = true
  circ : ∀ (i : Nat) (d : De), m.decs[i]? = some d → ¬ Reach (entries m) (saidT m d.typ) i
  hid : ∀ (i j : Nat) (d e : De), m.decs[i]? = some d → m.decs[j]? = some e → Reach (entries m) (saidT m d.typ) j → e.kind ≠ 2
theorem dec_at {m : Mo} {i : Nat} (h : i < m.decs.length) : ∃ d, m.decs[i]? = some d := ⟨_, List.getElem?_eq_getElem h⟩
theorem dec_lt {m : Mo} {i : Nat} {d : De} (h : m.decs[i]? = some d) : i < m.decs.length := (List.getElem?_eq_some_iff.1 h).1
theorem hidB_iff {m : Mo} {l : List Nat} : hidB (entries m) l = false ↔ ∀ (j : Nat) (e : De), m.decs[j]? = some e → Reach (entries m) l j → e.kind ≠ 2 := by
  unfold hidB
  rw [List.any_eq_false]
  constructor
  · intro h j e he hr hk
    refine h j (List.mem_range.2 (by rw [entries_len]; exact dec_lt he)) ?_
    rw [entries_at he, reachB_iff.2 hr]
    simp [hk]
  · intro h j hj
    have hj := List.mem_range.1 hj
    rw [entries_len] at hj
    obtain ⟨e, he⟩ := dec_at hj
    rw [entries_at he]
    simp only [Bool.and_eq_true, not_and, Bool.not_eq_true, beq_eq_false_iff_ne, ne_eq]
    intro hr
    exact h j e he (reachB_iff.1 hr)
theorem check7_none {m : Mo} : check7 m = none ↔ Ok7 m := by
  unfold check7 faults7
  rw [List.find?_eq_none]
  simp only [List.mem_cons, List.not_mem_nil, or_false, forall_eq_or_imp, forall_eq, decide_eq_true_eq, fstN_neg, entries_len]
  constructor
  · rintro ⟨h1, h2, h3, h4, h5⟩
    refine ⟨h1, h2, fun i d hd => ?_, fun i d hd hr => ?_, fun i j d e hd he hr => ?_⟩
    · have := h3 i (dec_lt hd)
      rw [atE_some (entries_at hd)] at this
      simpa using this
    · have := h4 i (dec_lt hd)
      rw [atE_some (entries_at hd)] at this
      rw [reachB_iff.2 hr] at this; cases this
    · have := h5 i (dec_lt hd)
      rw [atE_some (entries_at hd)] at this
      exact hidB_iff.1 this j e he hr
  · intro h
    refine ⟨h.imp, h.dec, fun i hi => ?_, fun i hi => ?_, fun i hi => ?_⟩
    · obtain ⟨d, hd⟩ := dec_at hi
      rw [atE_some (entries_at hd)]
      simpa using h.whole i d hd
    · obtain ⟨d, hd⟩ := dec_at hi
      rw [atE_some (entries_at hd)]
      cases e : reachB (entries m) (saidT m d.typ) i with
      | false => rfl
      | true => exact absurd (reachB_iff.1 e) (h.circ i d hd)
    · obtain ⟨d, hd⟩ := dec_at hi
      rw [atE_some (entries_at hd)]
      exact hidB_iff.2 fun j e he hr => h.hid i j d e hd he hr
structure Emb (f : Nat → Nat) (m' m : Mo) : Prop where
  imps : m'.imps = m.imps
  dec : ∀ (i : Nat) (d : De), m'.decs[i]? = some d → m.decs[f i]? = some d
  inj : ∀ i j, i < m'.decs.length → j < m'.decs.length → f i = f j → i = j
  sur : ∀ (i : Nat) (d : De), m.decs[i]? = some d → d.kind ≠ 4 → ∃ j, j < m'.decs.length ∧ f j = i
theorem dup_not {m : Mo} (h : ∀ i, i < m.decs.length → dupB (·.name) m.decs i = false) {i j : Nat} {d e : De} (hi : m.decs[i]? = some d) (hj : m.decs[j]? = some e) (hn : d.name = e.name) : i = j := by
  have key : ∀ (i j : Nat) (d e : De), m.decs[i]? = some d → m.decs[j]? = some e → d.name = e.name → ¬ i < j := by
    intro i j d e hi hj hn hlt
    have h1 := h j (dec_lt hj)
    rw [dupB_some hj, List.any_eq_false] at h1
    exact h1 d (List.mem_of_getElem? (i := i) (by rw [List.getElem?_take, if_pos hlt]; exact hi)) (by simpa using hn)
  have a := key i j d e hi hj hn
  have b := key j i e d hj hi hn.symm
  omega
theorem Emb.dup {f : Nat → Nat} {m' m : Mo} (h : Emb f m' m) (hd : ∀ i, i < m.decs.length → dupB (·.name) m.decs i = false) : ∀ i, i < m'.decs.length → dupB (·.name) m'.decs i = false := by
  intro i hi
  obtain ⟨d, hd'⟩ := dec_at hi
  rw [dupB_some hd', List.any_eq_false]
  intro y hy hn
  obtain ⟨j, hj⟩ := List.mem_iff_getElem?.1 hy
  rw [List.getElem?_take] at hj
  split at hj
  · rename_i hlt
    have e := dup_not hd (h.dec j y hj) (h.dec i d hd') (by simpa using hn)
    have := h.inj j i (dec_lt hj) hi e
    omega
  · cases hj
theorem typAt_iff {m : Mo} (h : ∀ i, i < m.decs.length → dupB (·.name) m.decs i = false) {s : ByteArray} {i : Nat} : typAt m s = some i ↔ ∃ d, m.decs[i]? = some d ∧ isTyp s d = true := by
  unfold typAt
  rw [List.findIdx?_eq_some_iff_getElem]
  constructor
  · rintro ⟨hi, h1, -⟩
    exact ⟨_, List.getElem?_eq_getElem hi, h1⟩
  · rintro ⟨d, hd, ht⟩
    obtain ⟨hi, e⟩ := List.getElem?_eq_some_iff.1 hd
    refine ⟨hi, by rw [e]; exact ht, fun j hj hjt => ?_⟩
    have hd2 : m.decs[j]? = some m.decs[j] := List.getElem?_eq_getElem _
    have : j = i := dup_not h hd2 hd (by
      simp only [isTyp, Bool.and_eq_true, decide_eq_true_eq] at ht hjt
      rw [ht.2, hjt.2])
    omega
theorem Emb.typ {f : Nat → Nat} {m' m : Mo} (h : Emb f m' m) (hd : ∀ i, i < m.decs.length → dupB (·.name) m.decs i = false) (s : ByteArray) : typAt m s = (typAt m' s).map f := by
  have hd' := h.dup hd
  cases h2 : typAt m' s with
  | some j =>
    obtain ⟨d, h3, h4⟩ := (typAt_iff hd').1 h2
    exact (typAt_iff hd).2 ⟨d, h.dec j d h3, h4⟩
  | none =>
    cases h1 : typAt m s with
    | none => rfl
    | some i =>
      exfalso
      obtain ⟨d, h3, h4⟩ := (typAt_iff hd).1 h1
      obtain ⟨j, hj, e⟩ := h.sur i d h3 (by simp only [isTyp, Bool.and_eq_true, Bool.not_eq_true', beq_eq_false_iff_ne] at h4; exact h4.1)
      obtain ⟨d', hd2⟩ := dec_at hj
      have h5 := h.dec j d' hd2
      rw [e, h3] at h5
      cases h5
      rw [(typAt_iff hd').2 ⟨d, hd2, h4⟩] at h2
      cases h2
section
variable {f : Nat → Nat} {m' m : Mo}
mutual
theorem said_emb (hi : m'.imps = m.imps) (h : ∀ s, typAt m s = (typAt m' s).map f) : ∀ t : Ty, saidT m t = (saidT m' t).map f ∧ wholeT m t = wholeT m' t
  | .mk k _ _ d n _ ss => by
    have hs := saidL_emb hi h ss
    unfold saidT wholeT
    by_cases hk : k = 8
    · simp only [if_pos hk]
      by_cases hz : d.size = 0
      · simp only [if_pos hz]
        rw [h n]
        cases typAt m' n <;> simp
      · simp only [if_neg hz]
        exact ⟨rfl, by unfold impHas; rw [hi]⟩
    · simp only [if_neg hk]
      exact hs
theorem saidL_emb (hi : m'.imps = m.imps) (h : ∀ s, typAt m s = (typAt m' s).map f) : ∀ l : List Ty, saidL m l = (saidL m' l).map f ∧ wholeL m l = wholeL m' l
  | [] => ⟨rfl, rfl⟩
  | t :: r => by
    have h1 := said_emb hi h t
    have h2 := saidL_emb hi h r
    unfold saidL wholeL
    rw [h1.1, h2.1, h1.2, h2.2]
    simp
end
theorem reach_emb (h : Emb f m' m) (ht : ∀ s, typAt m s = (typAt m' s).map f) {l : List Nat} {i : Nat} (hr : Reach (entries m') l i) : Reach (entries m) (l.map f) (f i) := by
  induction hr with
  | one h => exact .one (List.mem_map_of_mem h)
  | @step i j x _ hx hi ih =>
    have hj : j < m'.decs.length := by
      have := (List.getElem?_eq_some_iff.1 hx).1
      rwa [entries_len] at this
    obtain ⟨d, hd⟩ := dec_at hj
    rw [entries_at hd] at hx
    cases hx
    refine .step ih (entries_at (h.dec j d hd)) ?_
    show f i ∈ saidT m d.typ
    rw [(said_emb h.imps ht d.typ).1]
    exact List.mem_map_of_mem hi
theorem Ok7.emb (h : Emb f m' m) (ok : Ok7 m) : Ok7 m' := by
  have ht := h.typ ok.dec
  refine ⟨by rw [h.imps]; exact ok.imp, h.dup ok.dec, fun i d hd => ?_, fun i d hd hr => ?_, fun i j d e hd he hr => ?_⟩
  · rw [← (said_emb h.imps ht d.typ).2]; exact ok.whole _ d (h.dec i d hd)
  · have := reach_emb h ht hr
    rw [← (said_emb h.imps ht d.typ).1] at this
    exact ok.circ _ d (h.dec i d hd) this
  · have := reach_emb h ht hr
    rw [← (said_emb h.imps ht d.typ).1] at this
    exact ok.hid _ _ d e (h.dec i d hd) (h.dec j e he) this
end
end Go.Proofs.YtcdmgcgjonndpaaGreat

/-  -/
namespace Go.Proofs.YtcdmgcgjonndpaaGreat
open Go.RowKit
open M
def turned (m : Mo) (k : Nat) : Mo := { m with decs := m.decs.drop k ++ m.decs.take k }
theorem turned_len (m : Mo) (k : Nat) (hk : k ≤ m.decs.length) : (turned m k).decs.length = m.decs.length := by
  unfold turned; simp; omega
theorem turned_emb (m : Mo) (k : Nat) (hk : k < m.decs.length) : Emb (fun i => if i < m.decs.length - k then i + k else i - (m.decs.length - k)) (turned m k) m := by
  have hl := turned_len m k (by omega)
  have hd : ∀ (i : Nat), (turned m k).decs[i]? = if i < m.decs.length - k then m.decs[k + i]? else (m.decs.take k)[i - (m.decs.length - k)]? := by
    intro i
    unfold turned
    rw [List.getElem?_append, List.length_drop]
    split
    · rw [List.getElem?_drop]
    · rfl
  refine ⟨rfl, fun i d h => ?_, fun i j hi hj e => ?_, fun i d h _ => ?_⟩
  · rw [hd] at h
    show m.decs[if i < m.decs.length - k then i + k else i - (m.decs.length - k)]? = some d
    split at h
    · rename_i hi; rw [if_pos hi, Nat.add_comm]; exact h
    · rename_i hi
      rw [if_neg hi]
      rw [List.getElem?_take] at h
      split at h
      · exact h
      · cases h
  · rw [hl] at hi hj
    replace e : (if i < m.decs.length - k then i + k else i - (m.decs.length - k)) = (if j < m.decs.length - k then j + k else j - (m.decs.length - k)) := e
    split at e <;> split at e <;> omega
  · have hi := dec_lt h
    rw [hl]
    by_cases hik : i < k
    · refine ⟨i + (m.decs.length - k), by omega, ?_⟩
      show (if i + (m.decs.length - k) < m.decs.length - k then _ else _) = i
      rw [if_neg (by omega)]; omega
    · refine ⟨i - k, by omega, ?_⟩
      show (if i - k < m.decs.length - k then i - k + k else _) = i
      rw [if_pos (by omega)]; omega
theorem turned_back (m : Mo) (k : Nat) (hk : k ≤ m.decs.length) : turned (turned m k) (m.decs.length - k) = m := by
  have h1 : (m.decs.drop k).length = m.decs.length - k := by simp
  have e : (turned (turned m k) (m.decs.length - k)).decs = m.decs := by
    unfold turned
    show (m.decs.drop k ++ m.decs.take k).drop (m.decs.length - k) ++ (m.decs.drop k ++ m.decs.take k).take (m.decs.length - k) = m.decs
    rw [← h1, List.drop_left, List.take_left, List.take_append_drop]
  cases m
  unfold turned at e ⊢
  simp only at e ⊢
  rw [e]
theorem turned_zero (m : Mo) : turned m 0 = m := by cases m; unfold turned; simp
theorem turned_ok (m : Mo) (k : Nat) (hk : k < m.decs.length) : Ok7 (turned m k) ↔ Ok7 m := by
  constructor
  · intro h
    by_cases h0 : k = 0
    · subst h0; rwa [turned_zero] at h
    · have hl := turned_len m k (by omega)
      have e := turned_emb (turned m k) (m.decs.length - k) (by omega)
      rw [turned_back m k (by omega)] at e
      exact h.emb e
  · exact fun h => h.emb (turned_emb m k hk)
theorem turned_may (m : Mo) (k : Nat) (hk : k ≤ m.decs.length) : mayM (turned m k) = mayM m := by
  have h1 : (turned m k).decs.all mayD = m.decs.all mayD := by
    unfold turned
    show (m.decs.drop k ++ m.decs.take k).all mayD = _
    conv => rhs; rw [← List.take_append_drop k m.decs]
    rw [List.all_append, List.all_append, Bool.and_comm]
  unfold mayM
  rw [h1, turned_len m k hk]
  rfl
end Go.Proofs.YtcdmgcgjonndpaaGreat

/-  -/
namespace Go.Proofs.YtcdmgcgjonndpaaGreat
open Go.RowKit
open M
mutual
def locT : Ty → List Ty
  | .mk k p j d n ns ss => if k = 8 then .mk k p j d n ns ss :: locL ss else locL ss
def locL : List Ty → List Ty
  | [] => []
  | t :: r => locT t ++ locL r
end
theorem locT_eq (t : Ty) : locT t = (if t.kind = 8 then [t] else []) ++ locL t.subs := by
  cases t; unfold locT Ty.kind Ty.subs; split <;> rfl
def oneN (m : Mo) (x : Ty) : List Nat := if x.mod.size = 0 then (typAt m x.name).toList else []
theorem local_subs {t : Ty} (h : ownOk t = true) (hk : t.kind = 8) : t.subs = [] := by
  unfold ownOk shapeOk at h
  rw [hk] at h
  simp only [Bool.and_eq_true, decide_eq_true_eq, reduceCtorEq, if_neg (show ¬ ((8 : Int) = 1 ∨ (8 : Int) = 2 ∨ (8 : Int) = 3) by decide), if_neg (show ¬ (8 : Int) = 4 by decide), if_neg (show ¬ (8 : Int) = 5 by decide), if_neg (show ¬ (8 : Int) = 6 by decide), if_neg (show ¬ (8 : Int) = 7 by decide), if_pos] at h
  exact List.length_eq_zero_iff.1 h.2.1.1.1.1.1
mutual
theorem loc_ok (m : Mo) : ∀ t : Ty, allOk t = true → saidT m t = (locT t).flatMap (oneN m) ∧ wholeT m t = (locT t).all (knoN m)
  | .mk k p j d n ns ss, h => by
    rw [allOk_eq, Bool.and_eq_true] at h
    by_cases hk : k = 8
    · have hs : ss = [] := local_subs h.1 hk
      subst hs
      unfold saidT wholeT locT
      simp only [if_pos hk]
      refine ⟨by simp [locL, oneN, Ty.mod, Ty.name], by simp [locL, knoN, Ty.mod, Ty.name]⟩
    · unfold saidT wholeT locT
      simp only [if_neg hk]
      exact locL_ok m ss h.2
theorem locL_ok (m : Mo) : ∀ l : List Ty, allOkL l = true → saidL m l = (locL l).flatMap (oneN m) ∧ wholeL m l = (locL l).all (knoN m)
  | [], _ => ⟨rfl, rfl⟩
  | t :: r, h => by
    unfold allOkL at h
    rw [Bool.and_eq_true] at h
    have h1 := loc_ok m t h.1
    have h2 := locL_ok m r h.2
    unfold saidL wholeL locL
    rw [h1.1, h2.1, h1.2, h2.2, List.flatMap_append, List.all_append]
    exact ⟨rfl, rfl⟩
end
theorem loc_may (m : Mo) {t : Ty} (h : mayT t = true) : saidT m t = (locT t).flatMap (oneN m) ∧ wholeT m t = (locT t).all (knoN m) := by
  unfold mayT at h
  simp only [Bool.and_eq_true] at h
  exact loc_ok m t h.1.1
theorem mayD_sorts {d : De} (h : mayD d = true) : ((d.kind = 1 ∨ d.kind = 2) ∧ d.typ = noT ∧ greatB d.name.data.toList = true) ∨ (d.kind = 3 ∧ mayT d.typ = true ∧ greatB d.name.data.toList = true) ∨ (d.kind = 4 ∧ mayT d.typ = true ∧ smallB d.name.data.toList = true) := by
  unfold mayD at h
  split at h
  · rename_i hk
    rw [Bool.and_eq_true] at h
    exact .inl ⟨hk, (sameT_iff _ _).1 h.2, h.1⟩
  · split at h
    · rename_i hk
      rw [Bool.and_eq_true] at h
      exact .inr (.inl ⟨hk, h.2, h.1⟩)
    · split at h
      · rename_i hk
        rw [Bool.and_eq_true] at h
        exact .inr (.inr ⟨hk, h.2, h.1⟩)
      · cases h
structure Rch (m : Mo) (t : Ty) (F : Nat → Bool) (L : List Ty) : Prop where
  only : ∀ i, F i = true → Reach (entries m) (saidT m t) i
  says : ∀ x ∈ L, ∀ i ∈ oneN m x, Reach (entries m) (saidT m t) i
  own : ∀ x ∈ locT t, x ∈ L
  on : ∀ (k : Nat) (d : De), F k = true → m.decs[k]? = some d → d.kind = 3 → ∀ x ∈ locT d.typ, x ∈ L
def RkOut (m : Mo) (b p : Int) : Prop := (mayM m = false ∧ b = 1 ∧ p = -1) ∨ (mayM m = true ∧ match check7 m with | none => b = 0 ∧ p = -1 | some (i, c) => b = c ∧ p = i)
end Go.Proofs.YtcdmgcgjonndpaaGreat
