/-
  The walk of ScopeLess: whatever module.
-/
import Derived.Test.YtapjhmfbmkckaaaGreatDoorJ16
import Derived.Test.YtapjhmfbmkckaaaGreatDoorJ02
namespace Go.Proofs.YtapjhmfbmkckaaaGreatDoor
open Go.RowKit Go.Shelf
open Go.Sort Go.Maps
open M

/-- Declarations that are copied into a list of their own, in a box. -/
structure Lq (w0 : World) (d : Nat) (nm : ByteArray) (Li : Option Addr) (ni ci : Nat) (xs : List De) (A : Option Addr) (c : Nat) (wr : World) : Prop where
  below : Below w0.heap.size w0 wr
  at_ : d = w0.heap.size
  box : Mx d nm Li ni ci A xs.length c wr
  row : ∃ C : List (List Value), C.length = xs.length ∧ (∀ l, l ∈ C → l.length = 9) ∧ wr.ownsRow (d + 1) 45 9 (.slice A xs.length c) xs.length C.flatten ∧ ∀ (i : Nat) (l : List Value) (x : De), C[i]? = some l → xs[i]? = some x → deE w0 l x
theorem Lq.more {w0 : World} {d : Nat} {nm : ByteArray} {Li : Option Addr} {ni ci : Nat} {xs : List De} {A : Option Addr} {c : Nat} {wo w8 : World} {C : List (List Value)} {l : List Value} {x : De} {g cap : Nat} {o : Obj}
    (h : Lq w0 d nm Li ni ci xs A c wo) (hC1 : C.length = xs.length) (hC9 : ∀ l, l ∈ C → l.length = 9) (hCE : ∀ (i : Nat) (l : List Value) (x : De), C[i]? = some l → xs[i]? = some x → deE w0 l x) (hown : wo.ownsRow (d + 1) 45 9 (.slice A xs.length c) xs.length C.flatten)
    (hE : deE w0 l x) (hown8 : w8.ownsRow (d + 1) 45 9 (.slice (some ⟨g, 0, none⟩) (xs.length + 1) cap) (xs.length + 1) (C.flatten ++ l)) (hgrow : (wo.drew.alloc o).grownBy w8 (Value.slice A xs.length c).ownBlock) :
    Lq w0 d nm Li ni ci (xs ++ [x]) (some ⟨g, 0, none⟩) cap (w8.setCell ⟨d, 2, none⟩ (.slice (some ⟨g, 0, none⟩) (xs.length + 1) cap)) ∧ w8.cell? ⟨d, 2, none⟩ = some (.slice A xs.length c) ∧ w8.frozen? ⟨d, 2, none⟩ = false := by
  have hd := h.at_
  have hds : d < wo.heap.size := (Array.getElem?_eq_some_iff.1 h.box).1
  have hsz : (wo.drew.alloc o).heap.size = wo.heap.size + 1 := by simp
  have hlow : ∀ b, (Value.slice A xs.length c).ownBlock = some b → d + 1 ≤ b := fun b e => (hown.lt b e).1
  have old : ∀ b, b < d + 1 → w8.heap[b]? = wo.heap[b]? := fun b hb => by
    rw [hgrow.block b (by omega) (fun e => by have := hlow b e.symm; omega)]
    exact Lib.alloc_old wo.drew o b (by show b < wo.heap.size; omega)
  have hbox8 : Mx d nm Li ni ci A xs.length c w8 := (old d (by omega)).trans h.box
  have ot : ∀ b, b ≠ d → (w8.setCell ⟨d, 2, none⟩ (.slice (some ⟨g, 0, none⟩) (xs.length + 1) cap)).heap[b]? = w8.heap[b]? := fun b hb => Below.heap_setCell _ _ _ _ (by show b ≠ d; exact hb)
  have hl9 : l.length = 9 := deR.len w0 l x hE
  refine ⟨⟨?_, hd, ?_, C ++ [l], by simp [hC1], fun l' hl' => ?_, ?_, fun i l' y hl hy => ?_⟩, Lib.cell_of_heap hbox8 2, Lib.frozen_of_heap hbox8 2⟩
  · refine h.below.trans ⟨hgrow.os.trans rfl, hgrow.tape.trans rfl, hgrow.output.trans rfl, ?_, fun b hb => ?_⟩
    · have := hgrow.size
      simp at this ⊢; omega
    · rw [ot b (by omega)]; exact old b (by omega)
  · have := Joins.block_setCell (i := 2) hbox8 (.slice (some ⟨g, 0, none⟩) (xs.length + 1) cap)
    simpa [Mx] using this
  · rcases List.mem_append.1 hl' with h' | h'
    · exact hC9 _ h'
    · rw [List.mem_singleton.1 h']; exact hl9
  · have e : (C ++ [l]).flatten = C.flatten ++ l := by simp
    have e2 : (xs ++ [x]).length = xs.length + 1 := by simp
    rw [e, e2]
    exact own_from hown8 (fun b hb _ => ot b (by omega))
  · rcases Nat.lt_or_ge i xs.length with hi | hi
    · rw [List.getElem?_append_left (by omega)] at hl hy
      exact hCE i l' y hl hy
    · have hi' := (List.getElem?_eq_some_iff.1 hy).1
      have : i = xs.length := by simp at hi'; omega
      subst this
      rw [List.getElem?_append_right (by omega)] at hl hy
      simp [hC1] at hl
      simp at hy
      rw [← hl, ← hy]; exact hE
/-- The module that lies there then. -/
theorem Lq.module {w0 : World} {d : Nat} {m : Mo} {Li : Option Addr} {ci : Nat} {xs : List De} {A : Option Addr} {c : Nat} {wr : World} (h : Lq w0 d m.name Li m.imps.length ci xs A c wr) (hz1 : m.name.size ≤ 9223372036854775807) (hz2 : m.imps.length ≤ 9223372036854775807) (hz3 : xs.length ≤ 9223372036854775807) (hI : RowIn imR w0 Li m.imps) (hcI : m.imps.length ≤ ci) :
    MoAt wr [.string m.name, .slice Li m.imps.length ci, .slice A xs.length c] { m with decs := xs } ∧ CapsAt [.string m.name, .slice Li m.imps.length ci, .slice A xs.length c] { m with decs := xs } := by
  obtain ⟨C, hC1, hC9, hown, hCE⟩ := h.row
  refine ⟨⟨Li, ci, A, c, rfl, hz1, hz2, hz3, hI.below h.below, RowIn.of_own (R := deR) hown hC1 hC9 fun i l x hl hx => deR.keep _ _ _ _ (hCE i l x hl hx) h.below⟩, CapsAt.of (m := { m with decs := xs }) hcI (own_cap hown) rfl⟩
theorem Lq.start {w0 : World} {m : Mo} {Li : Option Addr} {ci : Nat} :
    Lq w0 w0.heap.size m.name Li m.imps.length ci [] none 0 (w0.alloc (.cells #[.string m.name, .slice Li m.imps.length ci, .slice none 0 0] 25)) :=
  ⟨below_new (Below.refl _ _) _, rfl, heap_alloc_new w0 _, [], rfl, fun l h => (by cases h), World.ownsRow_nil _ _ _ _, fun i l x h => by simp at h⟩
theorem check7_code {m : Mo} {i c : Int} (h : check7 m = some (i, c)) : ∃ n : Nat, c = n ∧ 1 ≤ n ∧ n ≤ 12 := by
  have h1 := List.mem_of_find?_eq_some h
  simp only [faults7, List.mem_cons, List.not_mem_nil, or_false, Prod.mk.injEq] at h1
  rcases h1 with h | h | h | h | h
  · exact ⟨5, h.2, by decide, by decide⟩
  · exact ⟨5, h.2, by decide, by decide⟩
  · exact ⟨4, h.2, by decide, by decide⟩
  · exact ⟨6, h.2, by decide, by decide⟩
  · exact ⟨10, h.2, by decide, by decide⟩
/-- What Of tells of what Check tells of a module without aliases: no circle. -/
theorem of_ck {m : Mo} {w : World} {e : Ending} {w' : World} (h : CkAny w (noneM m) e w') (hg : ErrT w') : ∃ v, e = .returned v ∧ Calls Tryz.prog 21 #[v] w' fun e w'' => ∃ c i : Int, e = .returned (.tuple #[.int .i64 c, .int .i64 i]) ∧ c ≠ 6 ∧ Below w'.heap.size w' w'' := by
  rcases h with ⟨hm, rfl⟩ | ⟨hm, h⟩
  · refine ⟨_, rfl, (of_code 1 (by decide) (by decide) w' hg).mono ?_⟩
    rintro e w'' ⟨rfl, hb⟩
    exact ⟨_, _, rfl, by decide, hb⟩
  · unfold CkOut at h
    cases hc : check7 (noneM m) with
    | none =>
      rw [hc] at h
      subst h
      refine ⟨_, rfl, (of_none w').mono ?_⟩
      rintro e w'' ⟨rfl, hb⟩
      exact ⟨_, _, rfl, by decide, hb⟩
    | some q =>
      obtain ⟨i, c⟩ := q
      rw [hc] at h
      obtain ⟨g, rfl, -, hsp⟩ := h
      obtain ⟨n, rfl, h1, h2⟩ := check7_code hc
      refine ⟨_, rfl, (of_spot g i n h1 h2 w' hg (Array.getElem?_eq_some_iff.1 hsp).1 (by rw [Lib.cell_of_heap hsp 0]; rfl) (by rw [Lib.cell_of_heap hsp 1]; rfl)).mono ?_⟩
      rintro e w'' ⟨rfl, hb⟩
      exact ⟨_, _, rfl, none_deep hm hc, hb⟩

set_option maxRecDepth 100000 in
set_option maxHeartbeats 16000000 in
theorem scopeLess_any (m : Mo) (l : List Value) (w : World) (hv : MoAt w l m) (hcap : CapsAt l m) (hg : ErrT w) :
    Calls Tryz.prog 5 #[.agg l.toArray] w fun e w' => e = .returned (.bool true) ∧ Below w.heap.size w w' := by
  have HV := Lib.hid hv
  have HG := Lib.hid hg
  obtain ⟨Ai, ci, Ad, cd, rfl, z1, z2, z3, -, hDm⟩ := hv
  have HDm0 := Lib.hid hDm
  clear hg hcap hDm
  obtain ⟨nd, hnd⟩ : ∃ nd, nd = m.decs.length := ⟨_, rfl⟩
  have HND := Lib.hid hnd
  rw [← hnd]
  obtain ⟨wb, hwb⟩ : ∃ wb, wb = w.alloc (.cells #[.string m.name, .slice Ai m.imps.length ci, .slice Ad nd cd] 25) := ⟨_, rfl⟩
  have HBB : Hid (Below w.heap.size w wb) := Lib.hid (by rw [hwb]; exact below_new (Below.refl _ _) _)
  have HXm : Hid (∀ w', Below wb.heap.size wb w' → ∀ i v, (#[.string m.name, .slice Ai m.imps.length ci, .slice Ad nd cd] : Array Value)[i]? = some v → w'.cell? ⟨w.heap.size, i, none⟩ = some v) := Lib.hid (fun w' hb i v hv => by
    have h1 : wb.heap[w.heap.size]? = some (.cells #[.string m.name, .slice Ai m.imps.length ci, .slice Ad nd cd] 25 (0, 0)) := by rw [hwb]; exact heap_alloc_new w _
    rw [(bcell hb).1 _ _ (Array.getElem?_eq_some_iff.1 h1).1, Lib.cell_of_heap h1]; exact hv)
  have HV0 : Hid (∀ w', Below wb.heap.size wb w' → MoAt w' [.string m.name, .slice Ai m.imps.length ci, .slice Ad nd cd] m) := Lib.hid (fun w' hb => by rw [hnd]; exact HV.out.below (below_over HBB.out hb))
  have HDm : Hid (∀ w', Below wb.heap.size wb w' → RowIn deR w' Ad m.decs) := Lib.hid (fun w' hb => HDm0.out.below (below_over HBB.out hb))
  have HG0 : Hid (∀ w', Below wb.heap.size wb w' → ErrT w') := Lib.hid (fun w' hb => HG.out.on (below_over HBB.out hb))
  have HWB := Lib.hid hwb
  clear hwb HV HG hnd HDm0
  go_enter Tryz.func5, Tryz.ntmps5
  go_wp2_with fail
  rw [← HWB.out]
  refine (up7_any _ (HG0.out _ (Below.refl _ _))).mono ?_; rintro e w1 ⟨rfl, hb1⟩
  have HB1 := Lib.hid hb1
  clear hb1
  have x0 := HXm.out w1 HB1.out 0 _ rfl
  have x1 := HXm.out w1 HB1.out 1 _ rfl
  have x2 := HXm.out w1 HB1.out 2 _ rfl
  go_wp2_with fail
  refine (rfew6_any m _ _ (HV0.out _ HB1.out)).mono ?_; rintro e w2 ⟨rfl, hb2⟩
  have HB2 := Lib.hid (below_over HB1.out hb2)
  clear x0 x1 x2 hb2
  rcases hid_or (fewM m) with hf | hf
  · rw [hf.out]
    go_wp2_with fail
    go_ret
    exact ⟨rfl, below_over HBB.out HB2.out⟩
  have HD := Lib.hid (few7 hf.out).2.2
  have hI100 := (few7 hf.out).1
  have hD100 := (few7 hf.out).2.1
  have hDm100 := hD100
  rw [← HND.out] at hD100
  rw [hf.out]
  clear hf
  have x0 := HXm.out w2 HB2.out 0 _ rfl
  have x1 := HXm.out w2 HB2.out 1 _ rfl
  have x2 := HXm.out w2 HB2.out 2 _ rfl
  go_wp2_with fail
  refine (copy7_any m _ _ (HV0.out _ HB2.out) (by omega) (by omega) HD.out).mono ?_; rintro e w3 ⟨lo, rfl, hO, hOc, hb3⟩
  have HB3 := Lib.hid (below_over HB2.out hb3)
  have HOM := Lib.hid hO
  have HOC := Lib.hid hOc
  clear x0 x1 x2 hb3 hOc
  obtain ⟨Oi, Oci, Od, Ocd, rfl, -, -, -, hOI, -⟩ := hO
  have HOI := Lib.hid hOI
  clear hOI
  rw [← HND.out] at HOM HOC ⊢
  obtain ⟨w4, hw4⟩ : ∃ w4, w4 = w3.alloc (.cells #[.string m.name, .slice Oi m.imps.length Oci, .slice Od nd Ocd] 25) := ⟨_, rfl⟩
  have hb4 : Below w3.heap.size w3 w4 := by rw [hw4]; exact below_new (Below.refl _ _) _
  have X4 : w4.heap[w3.heap.size]? = some (.cells #[.string m.name, .slice Oi m.imps.length Oci, .slice Od nd Ocd] 25 (0, 0)) := by rw [hw4]; exact heap_alloc_new w3 _
  have HB4 := Lib.hid (below_over HB3.out hb4)
  have HOM4 := Lib.hid (HOM.out.below hb4)
  have HX4 := Lib.hid X4
  have hl4 : w3.heap.size < w4.heap.size := by rw [hw4]; simp
  have HW4 := Lib.hid hw4
  clear hw4 hb4 X4 HOM
  go_upto_region 6 with fail
  rw [← HW4.out]
  have y0 := Lib.cell_of_heap HX4.out 0
  have y1 := Lib.cell_of_heap HX4.out 1
  have y2 := Lib.cell_of_heap HX4.out 2
  simp at y0 y1 y2
  go_wp2_with fail
  refine (check7_any m _ w4 HOM4.out (fun d hd => (HD.out d hd).1) HOC.out).mono ?_; rintro e w5 ⟨hck, hb5⟩
  have HB5 := Lib.hid (below_over HB4.out hb5)
  have HOM5 := Lib.hid (HOM4.out.below hb5)
  have HX5 := Lib.hid ((hb5.block _ hl4).trans HX4.out)
  clear y0 y1 y2 hb5 HW4
  obtain ⟨ev, rfl, hev⟩ : ∃ ev, e = .returned ev ∧ ((ev = .nilIface ∧ mayM m = true ∧ Ok7 m) ∨ ∃ T x, ev = .iface T x) := by
    rcases ck_cases hck with ⟨rfl, h⟩ | ⟨T, x, rfl, h⟩
    · exact ⟨_, rfl, .inl ⟨rfl, h⟩⟩
    · exact ⟨_, rfl, .inr ⟨T, x, rfl⟩⟩
  have HEV := Lib.hid hev
  clear hck hev
  have y0 := Lib.cell_of_heap HX5.out 0
  have y1 := Lib.cell_of_heap HX5.out 1
  have y2 := Lib.cell_of_heap HX5.out 2
  simp at y0 y1 y2
  have x0 := HXm.out w5 HB5.out 0 _ rfl
  have x1 := HXm.out w5 HB5.out 1 _ rfl
  have x2 := HXm.out w5 HB5.out 2 _ rfl
  go_wp2_with fail
  refine (same6_any m _ _ w5 HOM5.out (HV0.out _ HB5.out)).mono ?_; rintro e w6 ⟨rfl, hb6⟩
  have HB6 := Lib.hid (below_over HB5.out hb6)
  clear y0 y1 y2 x0 x1 x2 hb6
  have x0 := HXm.out w6 HB6.out 0 _ rfl
  have x1 := HXm.out w6 HB6.out 1 _ rfl
  have x2 := HXm.out w6 HB6.out 2 _ rfl
  go_wp2_with fail
  refine (copy7_any m _ _ (HV0.out _ HB6.out) (by omega) (by omega) HD.out).mono ?_; rintro e w7 ⟨lo, rfl, hL, hLc, hb7⟩
  have HB7 := Lib.hid (below_over HB6.out hb7)
  have HLM := Lib.hid hL
  have HLC := Lib.hid hLc
  clear x0 x1 x2 hb7 hLc
  obtain ⟨Li, Lci, Ld, Lcd, rfl, -, -, -, hLI, -⟩ := hL
  have HLI := Lib.hid hLI
  clear hLI
  rw [← HND.out] at HLM HLC ⊢
  have HL0 : Hid (Lq w7 w7.heap.size m.name Li m.imps.length Lci [] none 0 (w7.alloc (.cells #[.string m.name, .slice Li m.imps.length Lci, .slice none 0 0] 25))) := Lib.hid Lq.start
  have HLc : Hid (m.imps.length ≤ Lci) := Lib.hid (HLC.out Li Lci Ld Lcd (by rw [HND.out])).1
  obtain ⟨d7, hd7⟩ : ∃ d7, d7 = w7.heap.size := ⟨_, rfl⟩
  rw [← hd7] at HL0
  go_upto_region 11 with fail
  rw [← hd7]
  clear hd7 HLC HLM
  go_wp2_with fail
  go_loopw [8] (fun iv wr => ∃ (k : Nat) (xs : List De) (A : Option Addr) (c : Nat), k ≤ nd ∧ iv = .int .i64 k ∧ Hid (xs = (m.decs.take k).filter fun d => !(d.kind == 4)) ∧ Hid (Lq w7 d7 m.name Li m.imps.length Lci xs A c wr)) (fun iv _ => nd - (intOf iv).toNat)
  case atStart => exact ⟨0, [], none, 0, by omega, rfl, Lib.hid (by simp), HL0⟩
  case round =>
    obtain ⟨k, xs, A6, c6, hk, rfl, HXS, HQ⟩ := hrel
    obtain ⟨wo, rfl⟩ : ∃ wo : World, wo = wr := ⟨_, rfl⟩
    have HBo : Hid (Below w7.heap.size w7 wo) := Lib.hid HQ.out.below
    have HBb : Hid (Below wb.heap.size wb wo) := Lib.hid (below_over HB7.out HBo.out)
    have x2 := HXm.out wo HBb.out 2 _ rfl
    by_cases hlt : k < nd
    · obtain ⟨x, hx⟩ : ∃ x, m.decs[k]? = some x := ⟨_, List.getElem?_eq_getElem (by rw [← HND.out]; exact hlt)⟩
      obtain ⟨g, o, lx, rfl, hgx, hcx, hEx⟩ := HDm.out w7 HB7.out k x hx
      obtain ⟨hsx, l7, rfl, hTx⟩ := id hEx
      obtain ⟨Bn, cB, Bs, dB, rfl, -⟩ := hTx.parts
      have hc9 : ∀ (j : Nat) (v : Value), ([.int .i64 x.kind, .string x.name, .int .i64 x.typ.kind, .string x.typ.pkg, .int .i64 x.typ.major, .string x.typ.mod, .string x.typ.name, .slice Bn x.typ.names.length cB, .slice Bs x.typ.subs.length dB] : List Value)[j]? = some v → wo.cell? ⟨g, o + k * 9 + j, none⟩ = some v := fun j v hv => (HBo.out.cell (p := ⟨g, _, none⟩) hgx).trans (hcx j v hv)
      have hgo : g < wo.heap.size := Nat.lt_of_lt_of_le hgx HBo.out.size
      have u0 : wo.cell? ⟨g, o + k * 9, none⟩ = some (.int .i64 x.kind) := hc9 0 _ rfl
      have HXX := Lib.hid hx
      have HTK : Hid (m.decs.take (k + 1) = m.decs.take k ++ [x]) := Lib.hid (by rw [List.take_add_one, HXX.out]; rfl)
      clear hx hcx hgx
      by_cases hkd : x.kind = 4
      · have q4 : (x.kind == 4) = true := by rw [hkd]; rfl
        have q5 : (x.kind != 4) = false := by rw [hkd]; rfl
        have XN : Hid (xs = (m.decs.take (k + 1)).filter fun d => !(d.kind == 4)) := Lib.hid (by rw [HTK.out, List.filter_append, ← HXS.out]; simp [hkd])
        clear hkd hc9 hEx hTx hsx
        go_wp2_with fail
        go_roundw
        case rel => exact ⟨k + 1, xs, A6, c6, by omega, by go_num, XN, HQ⟩
        case measure => simp [intOf]; omega
      · have q4 : (x.kind == 4) = false := by simpa using hkd
        have q5 : (x.kind != 4) = true := by simpa using hkd
        have XN : Hid (xs ++ [x] = (m.decs.take (k + 1)).filter fun d => !(d.kind == 4)) := Lib.hid (by rw [HTK.out, List.filter_append, ← HXS.out]; simp [hkd])
        have hds : d7 < wo.heap.size := (Array.getElem?_eq_some_iff.1 HQ.out.box).1
        have hwl : w.heap.size < wo.heap.size := World.block_lt_of_cell? _ _ x2
        have hH : wo.cell? ⟨d7, 2, none⟩ = some (.slice A6 xs.length c6) ∧ wo.cell? ⟨w.heap.size, 2, none⟩ = some (.slice (some ⟨g, o, none⟩) nd cd) ∧ wo.cell? ⟨g, o + k * 9, none⟩ = some (.int .i64 x.kind) ∧ wo.cell? ⟨g, o + k * 9 + 1, none⟩ = some (.string x.name) ∧ wo.cell? ⟨g, o + k * 9 + 2, none⟩ = some (.int .i64 x.typ.kind) ∧ wo.cell? ⟨g, o + k * 9 + 3, none⟩ = some (.string x.typ.pkg) ∧ wo.cell? ⟨g, o + k * 9 + 4, none⟩ = some (.int .i64 x.typ.major) ∧ wo.cell? ⟨g, o + k * 9 + 5, none⟩ = some (.string x.typ.mod) ∧ wo.cell? ⟨g, o + k * 9 + 6, none⟩ = some (.string x.typ.name) ∧ wo.cell? ⟨g, o + k * 9 + 7, none⟩ = some (.slice Bn x.typ.names.length cB) ∧ wo.cell? ⟨g, o + k * 9 + 8, none⟩ = some (.slice Bs x.typ.subs.length dB) :=
          ⟨Lib.cell_of_heap HQ.out.box 2, x2, hc9 0 _ rfl, hc9 1 _ rfl, hc9 2 _ rfl, hc9 3 _ rfl, hc9 4 _ rfl, hc9 5 _ rfl, hc9 6 _ rfl, hc9 7 _ rfl, hc9 8 _ rfl⟩
        have KEEP : Hid (∀ wx : World, Below wo.heap.size wo wx → wx.cell? ⟨d7, 2, none⟩ = some (.slice A6 xs.length c6) ∧ wx.cell? ⟨w.heap.size, 2, none⟩ = some (.slice (some ⟨g, o, none⟩) nd cd) ∧ wx.cell? ⟨g, o + k * 9, none⟩ = some (.int .i64 x.kind) ∧ wx.cell? ⟨g, o + k * 9 + 1, none⟩ = some (.string x.name) ∧ wx.cell? ⟨g, o + k * 9 + 2, none⟩ = some (.int .i64 x.typ.kind) ∧ wx.cell? ⟨g, o + k * 9 + 3, none⟩ = some (.string x.typ.pkg) ∧ wx.cell? ⟨g, o + k * 9 + 4, none⟩ = some (.int .i64 x.typ.major) ∧ wx.cell? ⟨g, o + k * 9 + 5, none⟩ = some (.string x.typ.mod) ∧ wx.cell? ⟨g, o + k * 9 + 6, none⟩ = some (.string x.typ.name) ∧ wx.cell? ⟨g, o + k * 9 + 7, none⟩ = some (.slice Bn x.typ.names.length cB) ∧ wx.cell? ⟨g, o + k * 9 + 8, none⟩ = some (.slice Bs x.typ.subs.length dB)) := Lib.hid (fun wx hb => by
          obtain ⟨q0, q1, f0, f1, f2, f3, f4, f5, f6, f7, f8⟩ := hH
          exact ⟨(hb.cell (p := ⟨d7, 2, none⟩) hds).trans q0, (hb.cell (p := ⟨w.heap.size, 2, none⟩) hwl).trans q1, (hb.cell (p := ⟨g, _, none⟩) hgo).trans f0, (hb.cell (p := ⟨g, _, none⟩) hgo).trans f1, (hb.cell (p := ⟨g, _, none⟩) hgo).trans f2, (hb.cell (p := ⟨g, _, none⟩) hgo).trans f3, (hb.cell (p := ⟨g, _, none⟩) hgo).trans f4, (hb.cell (p := ⟨g, _, none⟩) hgo).trans f5, (hb.cell (p := ⟨g, _, none⟩) hgo).trans f6, (hb.cell (p := ⟨g, _, none⟩) hgo).trans f7, (hb.cell (p := ⟨g, _, none⟩) hgo).trans f8⟩)
        have HEX := Lib.hid hEx
        have hxl : xs.length ≤ 100 := by rw [HXS.out]; exact Nat.le_trans (List.length_filter_le _ _) (by rw [List.length_take]; omega)
        have hk0 : (0 : Int) ≤ k := by omega
        have hk1 : (k : Int) < nd := by omega
        clear hkd hc9 hEx hTx hsx hH
        go_upto_region 15 with fail
        clear u0 q4 q5 x2
        have hH0 := KEEP.out wo.drew (Below.drew (Below.refl _ _))
        refine AnyX.start (fun wx => wx.cell? ⟨d7, 2, none⟩ = some (.slice A6 xs.length c6) ∧ wx.cell? ⟨w.heap.size, 2, none⟩ = some (.slice (some ⟨g, o, none⟩) nd cd) ∧ wx.cell? ⟨g, o + k * 9, none⟩ = some (.int .i64 x.kind) ∧ wx.cell? ⟨g, o + k * 9 + 1, none⟩ = some (.string x.name) ∧ wx.cell? ⟨g, o + k * 9 + 2, none⟩ = some (.int .i64 x.typ.kind) ∧ wx.cell? ⟨g, o + k * 9 + 3, none⟩ = some (.string x.typ.pkg) ∧ wx.cell? ⟨g, o + k * 9 + 4, none⟩ = some (.int .i64 x.typ.major) ∧ wx.cell? ⟨g, o + k * 9 + 5, none⟩ = some (.string x.typ.mod) ∧ wx.cell? ⟨g, o + k * 9 + 6, none⟩ = some (.string x.typ.name) ∧ wx.cell? ⟨g, o + k * 9 + 7, none⟩ = some (.slice Bn x.typ.names.length cB) ∧ wx.cell? ⟨g, o + k * 9 + 8, none⟩ = some (.slice Bs x.typ.subs.length dB)) (fun k => decide (8 ≤ k)) (by kernel_rfl) ?_
        refine AnyX.move (i := 0) (v := ?_) rfl (by kernel_rfl) (by kernel_rfl) (by kernel_rfl) (by kernel_rfl) (fun _ _ _ h => h) (Or.inl ⟨by rfl, ?_⟩) ?_
        rotate_left
        · (intro wS _; go_simp; try with_reducible rfl)
        simp only [List.getElem_toArray, List.getElem_cons_succ, List.getElem_cons_zero]
        simp only [Act.put, List.setIfInBounds_toArray]
        simp only [List.set_cons_zero, List.set_cons_succ]
        refine AnyX.take (i := 1) (v := ?_) rfl (by kernel_rfl) (by kernel_rfl) (by kernel_rfl) (by kernel_rfl) (by kernel_rfl) (fun _ _ _ h => h) hH0 (Or.inl ⟨by rfl, ?_⟩) ?_
        rotate_left
        · (intro wS hS; (try obtain ⟨e0, e1, f0, f1, f2, f3, f4, f5, f6, f7, f8⟩ := hS); go_simp; try with_reducible rfl)
        simp only [List.getElem_toArray, List.getElem_cons_succ, List.getElem_cons_zero]
        simp only [Act.put, List.setIfInBounds_toArray]
        simp only [List.set_cons_zero, List.set_cons_succ]
        refine AnyX.move (i := 2) (v := ?_) rfl (by kernel_rfl) (by kernel_rfl) (by kernel_rfl) (by kernel_rfl) (fun _ _ _ h => h) (Or.inl ⟨by rfl, ?_⟩) ?_
        rotate_left
        · (intro wS _; go_simp; try with_reducible rfl)
        simp only [List.getElem_toArray, List.getElem_cons_succ, List.getElem_cons_zero]
        simp only [Act.put, List.setIfInBounds_toArray]
        simp only [List.set_cons_zero, List.set_cons_succ]
        refine AnyX.take (i := 3) (v := ?_) rfl (by kernel_rfl) (by kernel_rfl) (by kernel_rfl) (by kernel_rfl) (by kernel_rfl) (fun _ _ _ h => h) hH0 (Or.inl ⟨by rfl, ?_⟩) ?_
        rotate_left
        · (intro wS hS; (try obtain ⟨e0, e1, f0, f1, f2, f3, f4, f5, f6, f7, f8⟩ := hS); go_simp; try with_reducible rfl)
        simp only [List.getElem_toArray, List.getElem_cons_succ, List.getElem_cons_zero]
        simp only [Act.put, List.setIfInBounds_toArray]
        simp only [List.set_cons_zero, List.set_cons_succ]
        refine AnyX.move (i := 4) (v := ?_) rfl (by kernel_rfl) (by kernel_rfl) (by kernel_rfl) (by kernel_rfl) (fun _ _ _ h => h) (Or.inl ⟨by rfl, ?_⟩) ?_
        rotate_left
        · (intro wS _; go_simp; try with_reducible rfl)
        simp only [List.getElem_toArray, List.getElem_cons_succ, List.getElem_cons_zero]
        simp only [Act.put, List.setIfInBounds_toArray]
        simp only [List.set_cons_zero, List.set_cons_succ]
        refine AnyX.move (i := 5) (v := ?_) rfl (by kernel_rfl) (by kernel_rfl) (by kernel_rfl) (by kernel_rfl) (fun _ _ _ h => h) (Or.inl ⟨by rfl, ?_⟩) ?_
        rotate_left
        · (intro wS _; go_simp; try with_reducible rfl)
        simp only [List.getElem_toArray, List.getElem_cons_succ, List.getElem_cons_zero]
        simp only [Act.put, List.setIfInBounds_toArray]
        simp only [List.set_cons_zero, List.set_cons_succ]
        refine AnyX.take (i := 6) (v := ?_) rfl (by kernel_rfl) (by kernel_rfl) (by kernel_rfl) (by kernel_rfl) (by kernel_rfl) (fun _ _ _ h => h) hH0 (Or.inl ⟨by rfl, ?_⟩) ?_
        rotate_left
        · (intro wS hS; (try obtain ⟨e0, e1, f0, f1, f2, f3, f4, f5, f6, f7, f8⟩ := hS); go_simp; try with_reducible rfl)
        simp only [List.getElem_toArray, List.getElem_cons_succ, List.getElem_cons_zero]
        simp only [Act.put, List.setIfInBounds_toArray]
        simp only [List.set_cons_zero, List.set_cons_succ]
        clear hH0
        obtain ⟨C, hC1, hC9, hown, hCE⟩ := HQ.out.row
        obtain ⟨inf, hi1', hy0, hy1, hy2⟩ := info_parts dec_info
        have hMX : xs.length + 1 ≤ maxLen := by unfold maxLen; omega
        have hAL : ∀ oo, d7 + 1 ≤ (wo.drew.alloc oo).heap.size := fun oo => by have e1 : (wo.drew.alloc oo).heap.size = wo.heap.size + 1 := (by simp); omega
        have hownD : wo.drew.ownsRow (d7 + 1) 45 9 (.slice A6 xs.length c6) xs.length C.flatten := own_from hown (fun _ _ _ => rfl)
        refine AnyX.go 7 (by kernel_rfl) rfl rfl (fun K hK => ?_)
        simp only [List.getElem_toArray, List.getElem_cons_succ, List.getElem_cons_zero]
        go_simp
        refine hK.out _ _ (fun hoff _ => KEEP.out _ (below_new (Below.drew (Below.refl _ _)) _)) ?_
        clear hK
        try simp only [Act.put, List.setIfInBounds_toArray]
        try simp only [List.set_cons_zero, List.set_cons_succ]
        refine AnyX.go 8 (by kernel_rfl) rfl rfl (fun K hK => ?_)
        simp only [List.getElem_toArray, List.getElem_cons_succ, List.getElem_cons_zero]
        refine wp_append_lies _ (.tmp 46) (.tmp 52) 23 rfl (d7 + 1) 45 inf _ 9 136 Tryz.underlying23 hi1' hy0 hy1 hy2 (by rfl) (Nat.zero_lt_succ 8) (.slice A6 xs.length c6) xs.length _ rfl (hownD.alloc _) ⟨wo.heap.size, 0, none⟩ 1 1 [.int .i64 x.kind, .string x.name, .int .i64 x.typ.kind, .string x.typ.pkg, .int .i64 x.typ.major, .string x.typ.mod, .string x.typ.name, .slice Bn x.typ.names.length cB, .slice Bs x.typ.subs.length dB] rfl rfl (fun q u hq => by rw [WideShapes.add_plain, Nat.zero_add]; exact (Lib.cell_of_heap (heap_alloc_new wo.drew _) q).trans (by rw [← hq, ← List.getElem?_toArray])) (fun u hu => by simp at hu; rcases hu with rfl | rfl | rfl | rfl | rfl | rfl | rfl | rfl | rfl <;> rfl) Nat.one_pos hMX (by omega) (hAL _) _ rfl ?_
        intro gb cap w8 hown8 hgrow hat hlt8
        have LM := Lib.hid (Lq.more HQ.out hC1 hC9 hCE hown HEX.out hown8 hgrow)
        have z8 := LM.out.2.1
        have y8 := LM.out.2.2
        clear hown8 hgrow hat hlt8 hown hownD hCE hC9 hC1 hAL hMX hi1' hy0 hy1 hy2
        refine hK.out _ _ (fun hoff _ => absurd hoff (by decide)) ?_
        clear hK
        try simp only [Act.put, List.setIfInBounds_toArray]
        try simp only [List.set_cons_zero, List.set_cons_succ]
        refine AnyX.move (i := 9) (v := ?_) rfl (by kernel_rfl) (by kernel_rfl) (by kernel_rfl) (by kernel_rfl) (fun _ _ _ h => h) (Or.inl ⟨by rfl, ?_⟩) ?_
        rotate_left
        · (intro wS _; go_simp; try with_reducible rfl)
        simp only [List.getElem_toArray, List.getElem_cons_succ, List.getElem_cons_zero]
        simp only [Act.put, List.setIfInBounds_toArray]
        simp only [List.set_cons_zero, List.set_cons_succ]
        refine AnyX.go 10 (by kernel_rfl) rfl rfl (fun K hK => ?_)
        simp only [List.getElem_toArray, List.getElem_cons_succ, List.getElem_cons_zero]
        go_simp
        refine hK.out _ _ (fun hoff _ => absurd hoff (by decide)) ?_
        clear hK
        try simp only [Act.put, List.setIfInBounds_toArray]
        try simp only [List.set_cons_zero, List.set_cons_succ]
        refine AnyX.done (by kernel_rfl) ?_ _
        go_wp2_with fail
        go_roundw
        case rel => exact ⟨k + 1, xs ++ [x], some ⟨gb, 0, none⟩, cap, by omega, by go_num, XN, LM.out.1⟩
        case measure => simp [intOf]; omega
    · have hxs : xs = m.decs.filter fun d => !(d.kind == 4) := by
        have h := HXS.out
        rw [h, List.take_of_length_le (by rw [← HND.out]; omega)]
      have HXF := Lib.hid hxs
      have hxl : xs.length ≤ nd := by rw [hxs, HND.out]; exact List.length_filter_le _ _
      have q0 := Lib.cell_of_heap HQ.out.box 0
      have q1 := Lib.cell_of_heap HQ.out.box 1
      have q2 := Lib.cell_of_heap HQ.out.box 2
      simp at q0 q1 q2
      clear hxs HXS
      have LMo := HQ.out.module z1 z2 (by omega) HLI.out HLc.out
      have HLX : Hid (xs = (lessM m).decs) := Lib.hid HXF.out
      have HLM : Hid (MoAt wo [.string m.name, .slice Li m.imps.length Lci, .slice A6 xs.length c6] (lessM m)) := Lib.hid (by rw [show lessM m = { m with decs := xs } by unfold lessM; rw [HXF.out]]; exact LMo.1)
      have HLK : Hid (CapsAt [.string m.name, .slice Li m.imps.length Lci, .slice A6 xs.length c6] (lessM m)) := Lib.hid (by rw [show lessM m = { m with decs := xs } by unfold lessM; rw [HXF.out]]; exact LMo.2)
      clear LMo
      go_wp2_with fail
      refine (check7_any (lessM m) _ wo HLM.out (fun d hd => (HD.out d (List.mem_filter.1 hd).1).1) HLK.out).mono ?_; rintro e w8 ⟨hck, hb8⟩
      have HB8 := Lib.hid (below_over HBb.out hb8)
      clear q0 q1 q2 x2 hb8 HQ HLM HLK HLX HXF HBo HBb
      obtain ⟨fv, rfl, hfv⟩ : ∃ fv, e = .returned fv ∧ (ev = .nilIface → fv = .nilIface) := by
        rcases ck_cases hck with ⟨rfl, h⟩ | ⟨T, x, rfl, h⟩
        · exact ⟨_, rfl, fun _ => rfl⟩
        · refine ⟨_, rfl, fun he => ?_⟩
          rcases HEV.out with ⟨-, hm, ok⟩ | ⟨T, x, hx⟩
          · exact absurd ⟨filter_may m _ hm, less_ok ok⟩ h
          · rw [hx] at he; cases he
      have HFV : Hid ((ev = .nilIface ∧ fv = .nilIface) ∨ ∃ T x, ev = .iface T x) := Lib.hid (by
        rcases HEV.out with ⟨he, -⟩ | h
        · exact .inl ⟨he, hfv he⟩
        · exact .inr h)
      clear hck hfv HEV
      rcases HFV.out with ⟨rfl, rfl⟩ | ⟨T, x, rfl⟩
      · clear HFV
        go_upto_region 19 with fail
        have x0 := HXm.out w8 HB8.out 0 _ rfl
        have x1 := HXm.out w8 HB8.out 1 _ rfl
        have x2 := HXm.out w8 HB8.out 2 _ rfl
        go_wp2_with fail
        refine (copy7_any m _ _ (HV0.out _ HB8.out) (by omega) (by omega) HD.out).mono ?_; rintro e w9 ⟨lo, rfl, hN, hNc, hb9⟩
        have HB9 := Lib.hid (below_over HB8.out hb9)
        have HNM := Lib.hid hN
        have HNC := Lib.hid hNc
        clear x0 x1 x2 hb9 hNc
        obtain ⟨Ni, Nci, Nd, Ncd, rfl, -, -, -, hNI, -⟩ := hN
        have HNI := Lib.hid hNI
        clear hNI
        rw [← HND.out] at HNM HNC ⊢
        have HN0 : Hid (Lq w9 w9.heap.size m.name Ni m.imps.length Nci [] none 0 (w9.alloc (.cells #[.string m.name, .slice Ni m.imps.length Nci, .slice none 0 0] 25))) := Lib.hid Lq.start
        have HNc : Hid (m.imps.length ≤ Nci) := Lib.hid (HNC.out Ni Nci Nd Ncd (by rw [HND.out])).1
        obtain ⟨d9, hd9⟩ : ∃ d9, d9 = w9.heap.size := ⟨_, rfl⟩
        rw [← hd9] at HN0
        go_upto_region 22 with fail
        rw [← hd9]
        clear hd9 HNC HNM
        go_wp2_with fail
        go_loopw [11] (fun iv wr => ∃ (k : Nat) (xs : List De) (A : Option Addr) (c : Nat), k ≤ nd ∧ iv = .int .i64 k ∧ Hid (xs = (m.decs.take k).filter fun d => !(d.kind == 3)) ∧ Hid (Lq w9 d9 m.name Ni m.imps.length Nci xs A c wr)) (fun iv _ => nd - (intOf iv).toNat)
        case atStart => exact ⟨0, [], none, 0, by omega, rfl, Lib.hid (by simp), HN0⟩
        case round =>
          obtain ⟨k, xs, A6, c6, hk, rfl, HXS, HQ⟩ := hrel
          obtain ⟨wo, rfl⟩ : ∃ wo : World, wo = wr := ⟨_, rfl⟩
          have HBo : Hid (Below w9.heap.size w9 wo) := Lib.hid HQ.out.below
          have HBb : Hid (Below wb.heap.size wb wo) := Lib.hid (below_over HB9.out HBo.out)
          have x2 := HXm.out wo HBb.out 2 _ rfl
          by_cases hlt : k < nd
          · obtain ⟨x, hx⟩ : ∃ x, m.decs[k]? = some x := ⟨_, List.getElem?_eq_getElem (by rw [← HND.out]; exact hlt)⟩
            obtain ⟨g, o, lx, rfl, hgx, hcx, hEx⟩ := HDm.out w9 HB9.out k x hx
            obtain ⟨hsx, l7, rfl, hTx⟩ := id hEx
            obtain ⟨Bn, cB, Bs, dB, rfl, -⟩ := hTx.parts
            have hc9 : ∀ (j : Nat) (v : Value), ([.int .i64 x.kind, .string x.name, .int .i64 x.typ.kind, .string x.typ.pkg, .int .i64 x.typ.major, .string x.typ.mod, .string x.typ.name, .slice Bn x.typ.names.length cB, .slice Bs x.typ.subs.length dB] : List Value)[j]? = some v → wo.cell? ⟨g, o + k * 9 + j, none⟩ = some v := fun j v hv => (HBo.out.cell (p := ⟨g, _, none⟩) hgx).trans (hcx j v hv)
            have hgo : g < wo.heap.size := Nat.lt_of_lt_of_le hgx HBo.out.size
            have u0 : wo.cell? ⟨g, o + k * 9, none⟩ = some (.int .i64 x.kind) := hc9 0 _ rfl
            have HXX := Lib.hid hx
            have HTK : Hid (m.decs.take (k + 1) = m.decs.take k ++ [x]) := Lib.hid (by rw [List.take_add_one, HXX.out]; rfl)
            clear hx hcx hgx
            by_cases hkd : x.kind = 3
            · have q4 : (x.kind == 3) = true := by rw [hkd]; rfl
              have q5 : (x.kind != 3) = false := by rw [hkd]; rfl
              have XN : Hid (xs = (m.decs.take (k + 1)).filter fun d => !(d.kind == 3)) := Lib.hid (by rw [HTK.out, List.filter_append, ← HXS.out]; simp [hkd])
              clear hkd hc9 hEx hTx hsx
              go_wp2_with fail
              go_roundw
              case rel => exact ⟨k + 1, xs, A6, c6, by omega, by go_num, XN, HQ⟩
              case measure => simp [intOf]; omega
            · have q4 : (x.kind == 3) = false := by simpa using hkd
              have q5 : (x.kind != 3) = true := by simpa using hkd
              have XN : Hid (xs ++ [x] = (m.decs.take (k + 1)).filter fun d => !(d.kind == 3)) := Lib.hid (by rw [HTK.out, List.filter_append, ← HXS.out]; simp [hkd])
              have hds : d9 < wo.heap.size := (Array.getElem?_eq_some_iff.1 HQ.out.box).1
              have hwl : w.heap.size < wo.heap.size := World.block_lt_of_cell? _ _ x2
              have hH : wo.cell? ⟨d9, 2, none⟩ = some (.slice A6 xs.length c6) ∧ wo.cell? ⟨w.heap.size, 2, none⟩ = some (.slice (some ⟨g, o, none⟩) nd cd) ∧ wo.cell? ⟨g, o + k * 9, none⟩ = some (.int .i64 x.kind) ∧ wo.cell? ⟨g, o + k * 9 + 1, none⟩ = some (.string x.name) ∧ wo.cell? ⟨g, o + k * 9 + 2, none⟩ = some (.int .i64 x.typ.kind) ∧ wo.cell? ⟨g, o + k * 9 + 3, none⟩ = some (.string x.typ.pkg) ∧ wo.cell? ⟨g, o + k * 9 + 4, none⟩ = some (.int .i64 x.typ.major) ∧ wo.cell? ⟨g, o + k * 9 + 5, none⟩ = some (.string x.typ.mod) ∧ wo.cell? ⟨g, o + k * 9 + 6, none⟩ = some (.string x.typ.name) ∧ wo.cell? ⟨g, o + k * 9 + 7, none⟩ = some (.slice Bn x.typ.names.length cB) ∧ wo.cell? ⟨g, o + k * 9 + 8, none⟩ = some (.slice Bs x.typ.subs.length dB) :=
                ⟨Lib.cell_of_heap HQ.out.box 2, x2, hc9 0 _ rfl, hc9 1 _ rfl, hc9 2 _ rfl, hc9 3 _ rfl, hc9 4 _ rfl, hc9 5 _ rfl, hc9 6 _ rfl, hc9 7 _ rfl, hc9 8 _ rfl⟩
              have KEEP : Hid (∀ wx : World, Below wo.heap.size wo wx → wx.cell? ⟨d9, 2, none⟩ = some (.slice A6 xs.length c6) ∧ wx.cell? ⟨w.heap.size, 2, none⟩ = some (.slice (some ⟨g, o, none⟩) nd cd) ∧ wx.cell? ⟨g, o + k * 9, none⟩ = some (.int .i64 x.kind) ∧ wx.cell? ⟨g, o + k * 9 + 1, none⟩ = some (.string x.name) ∧ wx.cell? ⟨g, o + k * 9 + 2, none⟩ = some (.int .i64 x.typ.kind) ∧ wx.cell? ⟨g, o + k * 9 + 3, none⟩ = some (.string x.typ.pkg) ∧ wx.cell? ⟨g, o + k * 9 + 4, none⟩ = some (.int .i64 x.typ.major) ∧ wx.cell? ⟨g, o + k * 9 + 5, none⟩ = some (.string x.typ.mod) ∧ wx.cell? ⟨g, o + k * 9 + 6, none⟩ = some (.string x.typ.name) ∧ wx.cell? ⟨g, o + k * 9 + 7, none⟩ = some (.slice Bn x.typ.names.length cB) ∧ wx.cell? ⟨g, o + k * 9 + 8, none⟩ = some (.slice Bs x.typ.subs.length dB)) := Lib.hid (fun wx hb => by
                obtain ⟨q0, q1, f0, f1, f2, f3, f4, f5, f6, f7, f8⟩ := hH
                exact ⟨(hb.cell (p := ⟨d9, 2, none⟩) hds).trans q0, (hb.cell (p := ⟨w.heap.size, 2, none⟩) hwl).trans q1, (hb.cell (p := ⟨g, _, none⟩) hgo).trans f0, (hb.cell (p := ⟨g, _, none⟩) hgo).trans f1, (hb.cell (p := ⟨g, _, none⟩) hgo).trans f2, (hb.cell (p := ⟨g, _, none⟩) hgo).trans f3, (hb.cell (p := ⟨g, _, none⟩) hgo).trans f4, (hb.cell (p := ⟨g, _, none⟩) hgo).trans f5, (hb.cell (p := ⟨g, _, none⟩) hgo).trans f6, (hb.cell (p := ⟨g, _, none⟩) hgo).trans f7, (hb.cell (p := ⟨g, _, none⟩) hgo).trans f8⟩)
              have HEX := Lib.hid hEx
              have hxl : xs.length ≤ 100 := by rw [HXS.out]; exact Nat.le_trans (List.length_filter_le _ _) (by rw [List.length_take]; omega)
              have hk0 : (0 : Int) ≤ k := by omega
              have hk1 : (k : Int) < nd := by omega
              clear hkd hc9 hEx hTx hsx hH
              go_upto_region 25 with fail
              clear u0 q4 q5 x2
              have hH0 := KEEP.out wo.drew (Below.drew (Below.refl _ _))
              refine AnyX.start (fun wx => wx.cell? ⟨d9, 2, none⟩ = some (.slice A6 xs.length c6) ∧ wx.cell? ⟨w.heap.size, 2, none⟩ = some (.slice (some ⟨g, o, none⟩) nd cd) ∧ wx.cell? ⟨g, o + k * 9, none⟩ = some (.int .i64 x.kind) ∧ wx.cell? ⟨g, o + k * 9 + 1, none⟩ = some (.string x.name) ∧ wx.cell? ⟨g, o + k * 9 + 2, none⟩ = some (.int .i64 x.typ.kind) ∧ wx.cell? ⟨g, o + k * 9 + 3, none⟩ = some (.string x.typ.pkg) ∧ wx.cell? ⟨g, o + k * 9 + 4, none⟩ = some (.int .i64 x.typ.major) ∧ wx.cell? ⟨g, o + k * 9 + 5, none⟩ = some (.string x.typ.mod) ∧ wx.cell? ⟨g, o + k * 9 + 6, none⟩ = some (.string x.typ.name) ∧ wx.cell? ⟨g, o + k * 9 + 7, none⟩ = some (.slice Bn x.typ.names.length cB) ∧ wx.cell? ⟨g, o + k * 9 + 8, none⟩ = some (.slice Bs x.typ.subs.length dB)) (fun k => decide (8 ≤ k)) (by kernel_rfl) ?_
              refine AnyX.move (i := 0) (v := ?_) rfl (by kernel_rfl) (by kernel_rfl) (by kernel_rfl) (by kernel_rfl) (fun _ _ _ h => h) (Or.inl ⟨by rfl, ?_⟩) ?_
              rotate_left
              · (intro wS _; go_simp; try with_reducible rfl)
              simp only [List.getElem_toArray, List.getElem_cons_succ, List.getElem_cons_zero]
              simp only [Act.put, List.setIfInBounds_toArray]
              simp only [List.set_cons_zero, List.set_cons_succ]
              refine AnyX.take (i := 1) (v := ?_) rfl (by kernel_rfl) (by kernel_rfl) (by kernel_rfl) (by kernel_rfl) (by kernel_rfl) (fun _ _ _ h => h) hH0 (Or.inl ⟨by rfl, ?_⟩) ?_
              rotate_left
              · (intro wS hS; (try obtain ⟨e0, e1, f0, f1, f2, f3, f4, f5, f6, f7, f8⟩ := hS); go_simp; try with_reducible rfl)
              simp only [List.getElem_toArray, List.getElem_cons_succ, List.getElem_cons_zero]
              simp only [Act.put, List.setIfInBounds_toArray]
              simp only [List.set_cons_zero, List.set_cons_succ]
              refine AnyX.move (i := 2) (v := ?_) rfl (by kernel_rfl) (by kernel_rfl) (by kernel_rfl) (by kernel_rfl) (fun _ _ _ h => h) (Or.inl ⟨by rfl, ?_⟩) ?_
              rotate_left
              · (intro wS _; go_simp; try with_reducible rfl)
              simp only [List.getElem_toArray, List.getElem_cons_succ, List.getElem_cons_zero]
              simp only [Act.put, List.setIfInBounds_toArray]
              simp only [List.set_cons_zero, List.set_cons_succ]
              refine AnyX.take (i := 3) (v := ?_) rfl (by kernel_rfl) (by kernel_rfl) (by kernel_rfl) (by kernel_rfl) (by kernel_rfl) (fun _ _ _ h => h) hH0 (Or.inl ⟨by rfl, ?_⟩) ?_
              rotate_left
              · (intro wS hS; (try obtain ⟨e0, e1, f0, f1, f2, f3, f4, f5, f6, f7, f8⟩ := hS); go_simp; try with_reducible rfl)
              simp only [List.getElem_toArray, List.getElem_cons_succ, List.getElem_cons_zero]
              simp only [Act.put, List.setIfInBounds_toArray]
              simp only [List.set_cons_zero, List.set_cons_succ]
              refine AnyX.move (i := 4) (v := ?_) rfl (by kernel_rfl) (by kernel_rfl) (by kernel_rfl) (by kernel_rfl) (fun _ _ _ h => h) (Or.inl ⟨by rfl, ?_⟩) ?_
              rotate_left
              · (intro wS _; go_simp; try with_reducible rfl)
              simp only [List.getElem_toArray, List.getElem_cons_succ, List.getElem_cons_zero]
              simp only [Act.put, List.setIfInBounds_toArray]
              simp only [List.set_cons_zero, List.set_cons_succ]
              refine AnyX.move (i := 5) (v := ?_) rfl (by kernel_rfl) (by kernel_rfl) (by kernel_rfl) (by kernel_rfl) (fun _ _ _ h => h) (Or.inl ⟨by rfl, ?_⟩) ?_
              rotate_left
              · (intro wS _; go_simp; try with_reducible rfl)
              simp only [List.getElem_toArray, List.getElem_cons_succ, List.getElem_cons_zero]
              simp only [Act.put, List.setIfInBounds_toArray]
              simp only [List.set_cons_zero, List.set_cons_succ]
              refine AnyX.take (i := 6) (v := ?_) rfl (by kernel_rfl) (by kernel_rfl) (by kernel_rfl) (by kernel_rfl) (by kernel_rfl) (fun _ _ _ h => h) hH0 (Or.inl ⟨by rfl, ?_⟩) ?_
              rotate_left
              · (intro wS hS; (try obtain ⟨e0, e1, f0, f1, f2, f3, f4, f5, f6, f7, f8⟩ := hS); go_simp; try with_reducible rfl)
              simp only [List.getElem_toArray, List.getElem_cons_succ, List.getElem_cons_zero]
              simp only [Act.put, List.setIfInBounds_toArray]
              simp only [List.set_cons_zero, List.set_cons_succ]
              clear hH0
              obtain ⟨C, hC1, hC9, hown, hCE⟩ := HQ.out.row
              obtain ⟨inf, hi1', hy0, hy1, hy2⟩ := info_parts dec_info
              have hMX : xs.length + 1 ≤ maxLen := by unfold maxLen; omega
              have hAL : ∀ oo, d9 + 1 ≤ (wo.drew.alloc oo).heap.size := fun oo => by have e1 : (wo.drew.alloc oo).heap.size = wo.heap.size + 1 := (by simp); omega
              have hownD : wo.drew.ownsRow (d9 + 1) 45 9 (.slice A6 xs.length c6) xs.length C.flatten := own_from hown (fun _ _ _ => rfl)
              refine AnyX.go 7 (by kernel_rfl) rfl rfl (fun K hK => ?_)
              simp only [List.getElem_toArray, List.getElem_cons_succ, List.getElem_cons_zero]
              go_simp
              refine hK.out _ _ (fun hoff _ => KEEP.out _ (below_new (Below.drew (Below.refl _ _)) _)) ?_
              clear hK
              try simp only [Act.put, List.setIfInBounds_toArray]
              try simp only [List.set_cons_zero, List.set_cons_succ]
              refine AnyX.go 8 (by kernel_rfl) rfl rfl (fun K hK => ?_)
              simp only [List.getElem_toArray, List.getElem_cons_succ, List.getElem_cons_zero]
              refine wp_append_lies _ (.tmp 81) (.tmp 87) 23 rfl (d9 + 1) 45 inf _ 9 136 Tryz.underlying23 hi1' hy0 hy1 hy2 (by rfl) (Nat.zero_lt_succ 8) (.slice A6 xs.length c6) xs.length _ rfl (hownD.alloc _) ⟨wo.heap.size, 0, none⟩ 1 1 [.int .i64 x.kind, .string x.name, .int .i64 x.typ.kind, .string x.typ.pkg, .int .i64 x.typ.major, .string x.typ.mod, .string x.typ.name, .slice Bn x.typ.names.length cB, .slice Bs x.typ.subs.length dB] rfl rfl (fun q u hq => by rw [WideShapes.add_plain, Nat.zero_add]; exact (Lib.cell_of_heap (heap_alloc_new wo.drew _) q).trans (by rw [← hq, ← List.getElem?_toArray])) (fun u hu => by simp at hu; rcases hu with rfl | rfl | rfl | rfl | rfl | rfl | rfl | rfl | rfl <;> rfl) Nat.one_pos hMX (by omega) (hAL _) _ rfl ?_
              intro gb cap w8 hown8 hgrow hat hlt8
              have LM := Lib.hid (Lq.more HQ.out hC1 hC9 hCE hown HEX.out hown8 hgrow)
              have z8 := LM.out.2.1
              have y8 := LM.out.2.2
              clear hown8 hgrow hat hlt8 hown hownD hCE hC9 hC1 hAL hMX hi1' hy0 hy1 hy2
              refine hK.out _ _ (fun hoff _ => absurd hoff (by decide)) ?_
              clear hK
              try simp only [Act.put, List.setIfInBounds_toArray]
              try simp only [List.set_cons_zero, List.set_cons_succ]
              refine AnyX.move (i := 9) (v := ?_) rfl (by kernel_rfl) (by kernel_rfl) (by kernel_rfl) (by kernel_rfl) (fun _ _ _ h => h) (Or.inl ⟨by rfl, ?_⟩) ?_
              rotate_left
              · (intro wS _; go_simp; try with_reducible rfl)
              simp only [List.getElem_toArray, List.getElem_cons_succ, List.getElem_cons_zero]
              simp only [Act.put, List.setIfInBounds_toArray]
              simp only [List.set_cons_zero, List.set_cons_succ]
              refine AnyX.go 10 (by kernel_rfl) rfl rfl (fun K hK => ?_)
              simp only [List.getElem_toArray, List.getElem_cons_succ, List.getElem_cons_zero]
              go_simp
              refine hK.out _ _ (fun hoff _ => absurd hoff (by decide)) ?_
              clear hK
              try simp only [Act.put, List.setIfInBounds_toArray]
              try simp only [List.set_cons_zero, List.set_cons_succ]
              refine AnyX.done (by kernel_rfl) ?_ _
              go_wp2_with fail
              go_roundw
              case rel => exact ⟨k + 1, xs ++ [x], some ⟨gb, 0, none⟩, cap, by omega, by go_num, XN, LM.out.1⟩
              case measure => simp [intOf]; omega
          · have hxs : xs = m.decs.filter fun d => !(d.kind == 3) := by
              have h := HXS.out
              rw [h, List.take_of_length_le (by rw [← HND.out]; omega)]
            have HXF := Lib.hid hxs
            have hxl : xs.length ≤ nd := by rw [hxs, HND.out]; exact List.length_filter_le _ _
            have q0 := Lib.cell_of_heap HQ.out.box 0
            have q1 := Lib.cell_of_heap HQ.out.box 1
            have q2 := Lib.cell_of_heap HQ.out.box 2
            simp at q0 q1 q2
            clear hxs HXS
            have LMo := HQ.out.module z1 z2 (by omega) HNI.out HNc.out
            have HNM : Hid (MoAt wo [.string m.name, .slice Ni m.imps.length Nci, .slice A6 xs.length c6] (noneM m)) := Lib.hid (by rw [show noneM m = { m with decs := xs } by unfold noneM; rw [HXF.out]]; exact LMo.1)
            have HNK : Hid (CapsAt [.string m.name, .slice Ni m.imps.length Nci, .slice A6 xs.length c6] (noneM m)) := Lib.hid (by rw [show noneM m = { m with decs := xs } by unfold noneM; rw [HXF.out]]; exact LMo.2)
            clear LMo
            go_wp2_with fail
            refine (check7_any (noneM m) _ wo HNM.out (fun d hd => (HD.out d (List.mem_filter.1 hd).1).1) HNK.out).mono ?_; rintro e w10 ⟨hck, hb10⟩
            have HB10 := Lib.hid (below_over HBb.out hb10)
            clear q0 q1 q2 x2 hb10 HQ HNM HNK HXF HBo HBb
            obtain ⟨v10, rfl, hof⟩ := of_ck hck (HG0.out _ HB10.out)
            have HOF := Lib.hid hof
            clear hck hof
            go_wp2_with fail
            refine HOF.out.mono ?_; rintro e w11 ⟨cc, ii, rfl, hne6, hb11⟩
            have HB11 := Lib.hid (below_over HB10.out hb11)
            have q6 : (cc != 6) = true := by simpa using hne6
            clear hb11 hne6 HOF
            go_wp2_with fail
            go_ret
            exact ⟨rfl, below_over HBB.out HB11.out⟩
      · clear HFV
        go_upto_region 19 with fail
        have x0 := HXm.out w8 HB8.out 0 _ rfl
        have x1 := HXm.out w8 HB8.out 1 _ rfl
        have x2 := HXm.out w8 HB8.out 2 _ rfl
        go_wp2_with fail
        refine (copy7_any m _ _ (HV0.out _ HB8.out) (by omega) (by omega) HD.out).mono ?_; rintro e w9 ⟨lo, rfl, hN, hNc, hb9⟩
        have HB9 := Lib.hid (below_over HB8.out hb9)
        have HNM := Lib.hid hN
        have HNC := Lib.hid hNc
        clear x0 x1 x2 hb9 hNc
        obtain ⟨Ni, Nci, Nd, Ncd, rfl, -, -, -, hNI, -⟩ := hN
        have HNI := Lib.hid hNI
        clear hNI
        rw [← HND.out] at HNM HNC ⊢
        have HN0 : Hid (Lq w9 w9.heap.size m.name Ni m.imps.length Nci [] none 0 (w9.alloc (.cells #[.string m.name, .slice Ni m.imps.length Nci, .slice none 0 0] 25))) := Lib.hid Lq.start
        have HNc : Hid (m.imps.length ≤ Nci) := Lib.hid (HNC.out Ni Nci Nd Ncd (by rw [HND.out])).1
        obtain ⟨d9, hd9⟩ : ∃ d9, d9 = w9.heap.size := ⟨_, rfl⟩
        rw [← hd9] at HN0
        go_upto_region 22 with fail
        rw [← hd9]
        clear hd9 HNC HNM
        go_wp2_with fail
        go_loopw [11] (fun iv wr => ∃ (k : Nat) (xs : List De) (A : Option Addr) (c : Nat), k ≤ nd ∧ iv = .int .i64 k ∧ Hid (xs = (m.decs.take k).filter fun d => !(d.kind == 3)) ∧ Hid (Lq w9 d9 m.name Ni m.imps.length Nci xs A c wr)) (fun iv _ => nd - (intOf iv).toNat)
        case atStart => exact ⟨0, [], none, 0, by omega, rfl, Lib.hid (by simp), HN0⟩
        case round =>
          obtain ⟨k, xs, A6, c6, hk, rfl, HXS, HQ⟩ := hrel
          obtain ⟨wo, rfl⟩ : ∃ wo : World, wo = wr := ⟨_, rfl⟩
          have HBo : Hid (Below w9.heap.size w9 wo) := Lib.hid HQ.out.below
          have HBb : Hid (Below wb.heap.size wb wo) := Lib.hid (below_over HB9.out HBo.out)
          have x2 := HXm.out wo HBb.out 2 _ rfl
          by_cases hlt : k < nd
          · obtain ⟨x, hx⟩ : ∃ x, m.decs[k]? = some x := ⟨_, List.getElem?_eq_getElem (by rw [← HND.out]; exact hlt)⟩
            obtain ⟨g, o, lx, rfl, hgx, hcx, hEx⟩ := HDm.out w9 HB9.out k x hx
            obtain ⟨hsx, l7, rfl, hTx⟩ := id hEx
            obtain ⟨Bn, cB, Bs, dB, rfl, -⟩ := hTx.parts
            have hc9 : ∀ (j : Nat) (v : Value), ([.int .i64 x.kind, .string x.name, .int .i64 x.typ.kind, .string x.typ.pkg, .int .i64 x.typ.major, .string x.typ.mod, .string x.typ.name, .slice Bn x.typ.names.length cB, .slice Bs x.typ.subs.length dB] : List Value)[j]? = some v → wo.cell? ⟨g, o + k * 9 + j, none⟩ = some v := fun j v hv => (HBo.out.cell (p := ⟨g, _, none⟩) hgx).trans (hcx j v hv)
            have hgo : g < wo.heap.size := Nat.lt_of_lt_of_le hgx HBo.out.size
            have u0 : wo.cell? ⟨g, o + k * 9, none⟩ = some (.int .i64 x.kind) := hc9 0 _ rfl
            have HXX := Lib.hid hx
            have HTK : Hid (m.decs.take (k + 1) = m.decs.take k ++ [x]) := Lib.hid (by rw [List.take_add_one, HXX.out]; rfl)
            clear hx hcx hgx
            by_cases hkd : x.kind = 3
            · have q4 : (x.kind == 3) = true := by rw [hkd]; rfl
              have q5 : (x.kind != 3) = false := by rw [hkd]; rfl
              have XN : Hid (xs = (m.decs.take (k + 1)).filter fun d => !(d.kind == 3)) := Lib.hid (by rw [HTK.out, List.filter_append, ← HXS.out]; simp [hkd])
              clear hkd hc9 hEx hTx hsx
              go_wp2_with fail
              go_roundw
              case rel => exact ⟨k + 1, xs, A6, c6, by omega, by go_num, XN, HQ⟩
              case measure => simp [intOf]; omega
            · have q4 : (x.kind == 3) = false := by simpa using hkd
              have q5 : (x.kind != 3) = true := by simpa using hkd
              have XN : Hid (xs ++ [x] = (m.decs.take (k + 1)).filter fun d => !(d.kind == 3)) := Lib.hid (by rw [HTK.out, List.filter_append, ← HXS.out]; simp [hkd])
              have hds : d9 < wo.heap.size := (Array.getElem?_eq_some_iff.1 HQ.out.box).1
              have hwl : w.heap.size < wo.heap.size := World.block_lt_of_cell? _ _ x2
              have hH : wo.cell? ⟨d9, 2, none⟩ = some (.slice A6 xs.length c6) ∧ wo.cell? ⟨w.heap.size, 2, none⟩ = some (.slice (some ⟨g, o, none⟩) nd cd) ∧ wo.cell? ⟨g, o + k * 9, none⟩ = some (.int .i64 x.kind) ∧ wo.cell? ⟨g, o + k * 9 + 1, none⟩ = some (.string x.name) ∧ wo.cell? ⟨g, o + k * 9 + 2, none⟩ = some (.int .i64 x.typ.kind) ∧ wo.cell? ⟨g, o + k * 9 + 3, none⟩ = some (.string x.typ.pkg) ∧ wo.cell? ⟨g, o + k * 9 + 4, none⟩ = some (.int .i64 x.typ.major) ∧ wo.cell? ⟨g, o + k * 9 + 5, none⟩ = some (.string x.typ.mod) ∧ wo.cell? ⟨g, o + k * 9 + 6, none⟩ = some (.string x.typ.name) ∧ wo.cell? ⟨g, o + k * 9 + 7, none⟩ = some (.slice Bn x.typ.names.length cB) ∧ wo.cell? ⟨g, o + k * 9 + 8, none⟩ = some (.slice Bs x.typ.subs.length dB) :=
                ⟨Lib.cell_of_heap HQ.out.box 2, x2, hc9 0 _ rfl, hc9 1 _ rfl, hc9 2 _ rfl, hc9 3 _ rfl, hc9 4 _ rfl, hc9 5 _ rfl, hc9 6 _ rfl, hc9 7 _ rfl, hc9 8 _ rfl⟩
              have KEEP : Hid (∀ wx : World, Below wo.heap.size wo wx → wx.cell? ⟨d9, 2, none⟩ = some (.slice A6 xs.length c6) ∧ wx.cell? ⟨w.heap.size, 2, none⟩ = some (.slice (some ⟨g, o, none⟩) nd cd) ∧ wx.cell? ⟨g, o + k * 9, none⟩ = some (.int .i64 x.kind) ∧ wx.cell? ⟨g, o + k * 9 + 1, none⟩ = some (.string x.name) ∧ wx.cell? ⟨g, o + k * 9 + 2, none⟩ = some (.int .i64 x.typ.kind) ∧ wx.cell? ⟨g, o + k * 9 + 3, none⟩ = some (.string x.typ.pkg) ∧ wx.cell? ⟨g, o + k * 9 + 4, none⟩ = some (.int .i64 x.typ.major) ∧ wx.cell? ⟨g, o + k * 9 + 5, none⟩ = some (.string x.typ.mod) ∧ wx.cell? ⟨g, o + k * 9 + 6, none⟩ = some (.string x.typ.name) ∧ wx.cell? ⟨g, o + k * 9 + 7, none⟩ = some (.slice Bn x.typ.names.length cB) ∧ wx.cell? ⟨g, o + k * 9 + 8, none⟩ = some (.slice Bs x.typ.subs.length dB)) := Lib.hid (fun wx hb => by
                obtain ⟨q0, q1, f0, f1, f2, f3, f4, f5, f6, f7, f8⟩ := hH
                exact ⟨(hb.cell (p := ⟨d9, 2, none⟩) hds).trans q0, (hb.cell (p := ⟨w.heap.size, 2, none⟩) hwl).trans q1, (hb.cell (p := ⟨g, _, none⟩) hgo).trans f0, (hb.cell (p := ⟨g, _, none⟩) hgo).trans f1, (hb.cell (p := ⟨g, _, none⟩) hgo).trans f2, (hb.cell (p := ⟨g, _, none⟩) hgo).trans f3, (hb.cell (p := ⟨g, _, none⟩) hgo).trans f4, (hb.cell (p := ⟨g, _, none⟩) hgo).trans f5, (hb.cell (p := ⟨g, _, none⟩) hgo).trans f6, (hb.cell (p := ⟨g, _, none⟩) hgo).trans f7, (hb.cell (p := ⟨g, _, none⟩) hgo).trans f8⟩)
              have HEX := Lib.hid hEx
              have hxl : xs.length ≤ 100 := by rw [HXS.out]; exact Nat.le_trans (List.length_filter_le _ _) (by rw [List.length_take]; omega)
              have hk0 : (0 : Int) ≤ k := by omega
              have hk1 : (k : Int) < nd := by omega
              clear hkd hc9 hEx hTx hsx hH
              go_upto_region 25 with fail
              clear u0 q4 q5 x2
              have hH0 := KEEP.out wo.drew (Below.drew (Below.refl _ _))
              refine AnyX.start (fun wx => wx.cell? ⟨d9, 2, none⟩ = some (.slice A6 xs.length c6) ∧ wx.cell? ⟨w.heap.size, 2, none⟩ = some (.slice (some ⟨g, o, none⟩) nd cd) ∧ wx.cell? ⟨g, o + k * 9, none⟩ = some (.int .i64 x.kind) ∧ wx.cell? ⟨g, o + k * 9 + 1, none⟩ = some (.string x.name) ∧ wx.cell? ⟨g, o + k * 9 + 2, none⟩ = some (.int .i64 x.typ.kind) ∧ wx.cell? ⟨g, o + k * 9 + 3, none⟩ = some (.string x.typ.pkg) ∧ wx.cell? ⟨g, o + k * 9 + 4, none⟩ = some (.int .i64 x.typ.major) ∧ wx.cell? ⟨g, o + k * 9 + 5, none⟩ = some (.string x.typ.mod) ∧ wx.cell? ⟨g, o + k * 9 + 6, none⟩ = some (.string x.typ.name) ∧ wx.cell? ⟨g, o + k * 9 + 7, none⟩ = some (.slice Bn x.typ.names.length cB) ∧ wx.cell? ⟨g, o + k * 9 + 8, none⟩ = some (.slice Bs x.typ.subs.length dB)) (fun k => decide (8 ≤ k)) (by kernel_rfl) ?_
              refine AnyX.move (i := 0) (v := ?_) rfl (by kernel_rfl) (by kernel_rfl) (by kernel_rfl) (by kernel_rfl) (fun _ _ _ h => h) (Or.inl ⟨by rfl, ?_⟩) ?_
              rotate_left
              · (intro wS _; go_simp; try with_reducible rfl)
              simp only [List.getElem_toArray, List.getElem_cons_succ, List.getElem_cons_zero]
              simp only [Act.put, List.setIfInBounds_toArray]
              simp only [List.set_cons_zero, List.set_cons_succ]
              refine AnyX.take (i := 1) (v := ?_) rfl (by kernel_rfl) (by kernel_rfl) (by kernel_rfl) (by kernel_rfl) (by kernel_rfl) (fun _ _ _ h => h) hH0 (Or.inl ⟨by rfl, ?_⟩) ?_
              rotate_left
              · (intro wS hS; (try obtain ⟨e0, e1, f0, f1, f2, f3, f4, f5, f6, f7, f8⟩ := hS); go_simp; try with_reducible rfl)
              simp only [List.getElem_toArray, List.getElem_cons_succ, List.getElem_cons_zero]
              simp only [Act.put, List.setIfInBounds_toArray]
              simp only [List.set_cons_zero, List.set_cons_succ]
              refine AnyX.move (i := 2) (v := ?_) rfl (by kernel_rfl) (by kernel_rfl) (by kernel_rfl) (by kernel_rfl) (fun _ _ _ h => h) (Or.inl ⟨by rfl, ?_⟩) ?_
              rotate_left
              · (intro wS _; go_simp; try with_reducible rfl)
              simp only [List.getElem_toArray, List.getElem_cons_succ, List.getElem_cons_zero]
              simp only [Act.put, List.setIfInBounds_toArray]
              simp only [List.set_cons_zero, List.set_cons_succ]
              refine AnyX.take (i := 3) (v := ?_) rfl (by kernel_rfl) (by kernel_rfl) (by kernel_rfl) (by kernel_rfl) (by kernel_rfl) (fun _ _ _ h => h) hH0 (Or.inl ⟨by rfl, ?_⟩) ?_
              rotate_left
              · (intro wS hS; (try obtain ⟨e0, e1, f0, f1, f2, f3, f4, f5, f6, f7, f8⟩ := hS); go_simp; try with_reducible rfl)
              simp only [List.getElem_toArray, List.getElem_cons_succ, List.getElem_cons_zero]
              simp only [Act.put, List.setIfInBounds_toArray]
              simp only [List.set_cons_zero, List.set_cons_succ]
              refine AnyX.move (i := 4) (v := ?_) rfl (by kernel_rfl) (by kernel_rfl) (by kernel_rfl) (by kernel_rfl) (fun _ _ _ h => h) (Or.inl ⟨by rfl, ?_⟩) ?_
              rotate_left
              · (intro wS _; go_simp; try with_reducible rfl)
              simp only [List.getElem_toArray, List.getElem_cons_succ, List.getElem_cons_zero]
              simp only [Act.put, List.setIfInBounds_toArray]
              simp only [List.set_cons_zero, List.set_cons_succ]
              refine AnyX.move (i := 5) (v := ?_) rfl (by kernel_rfl) (by kernel_rfl) (by kernel_rfl) (by kernel_rfl) (fun _ _ _ h => h) (Or.inl ⟨by rfl, ?_⟩) ?_
              rotate_left
              · (intro wS _; go_simp; try with_reducible rfl)
              simp only [List.getElem_toArray, List.getElem_cons_succ, List.getElem_cons_zero]
              simp only [Act.put, List.setIfInBounds_toArray]
              simp only [List.set_cons_zero, List.set_cons_succ]
              refine AnyX.take (i := 6) (v := ?_) rfl (by kernel_rfl) (by kernel_rfl) (by kernel_rfl) (by kernel_rfl) (by kernel_rfl) (fun _ _ _ h => h) hH0 (Or.inl ⟨by rfl, ?_⟩) ?_
              rotate_left
              · (intro wS hS; (try obtain ⟨e0, e1, f0, f1, f2, f3, f4, f5, f6, f7, f8⟩ := hS); go_simp; try with_reducible rfl)
              simp only [List.getElem_toArray, List.getElem_cons_succ, List.getElem_cons_zero]
              simp only [Act.put, List.setIfInBounds_toArray]
              simp only [List.set_cons_zero, List.set_cons_succ]
              clear hH0
              obtain ⟨C, hC1, hC9, hown, hCE⟩ := HQ.out.row
              obtain ⟨inf, hi1', hy0, hy1, hy2⟩ := info_parts dec_info
              have hMX : xs.length + 1 ≤ maxLen := by unfold maxLen; omega
              have hAL : ∀ oo, d9 + 1 ≤ (wo.drew.alloc oo).heap.size := fun oo => by have e1 : (wo.drew.alloc oo).heap.size = wo.heap.size + 1 := (by simp); omega
              have hownD : wo.drew.ownsRow (d9 + 1) 45 9 (.slice A6 xs.length c6) xs.length C.flatten := own_from hown (fun _ _ _ => rfl)
              refine AnyX.go 7 (by kernel_rfl) rfl rfl (fun K hK => ?_)
              simp only [List.getElem_toArray, List.getElem_cons_succ, List.getElem_cons_zero]
              go_simp
              refine hK.out _ _ (fun hoff _ => KEEP.out _ (below_new (Below.drew (Below.refl _ _)) _)) ?_
              clear hK
              try simp only [Act.put, List.setIfInBounds_toArray]
              try simp only [List.set_cons_zero, List.set_cons_succ]
              refine AnyX.go 8 (by kernel_rfl) rfl rfl (fun K hK => ?_)
              simp only [List.getElem_toArray, List.getElem_cons_succ, List.getElem_cons_zero]
              refine wp_append_lies _ (.tmp 81) (.tmp 87) 23 rfl (d9 + 1) 45 inf _ 9 136 Tryz.underlying23 hi1' hy0 hy1 hy2 (by rfl) (Nat.zero_lt_succ 8) (.slice A6 xs.length c6) xs.length _ rfl (hownD.alloc _) ⟨wo.heap.size, 0, none⟩ 1 1 [.int .i64 x.kind, .string x.name, .int .i64 x.typ.kind, .string x.typ.pkg, .int .i64 x.typ.major, .string x.typ.mod, .string x.typ.name, .slice Bn x.typ.names.length cB, .slice Bs x.typ.subs.length dB] rfl rfl (fun q u hq => by rw [WideShapes.add_plain, Nat.zero_add]; exact (Lib.cell_of_heap (heap_alloc_new wo.drew _) q).trans (by rw [← hq, ← List.getElem?_toArray])) (fun u hu => by simp at hu; rcases hu with rfl | rfl | rfl | rfl | rfl | rfl | rfl | rfl | rfl <;> rfl) Nat.one_pos hMX (by omega) (hAL _) _ rfl ?_
              intro gb cap w8 hown8 hgrow hat hlt8
              have LM := Lib.hid (Lq.more HQ.out hC1 hC9 hCE hown HEX.out hown8 hgrow)
              have z8 := LM.out.2.1
              have y8 := LM.out.2.2
              clear hown8 hgrow hat hlt8 hown hownD hCE hC9 hC1 hAL hMX hi1' hy0 hy1 hy2
              refine hK.out _ _ (fun hoff _ => absurd hoff (by decide)) ?_
              clear hK
              try simp only [Act.put, List.setIfInBounds_toArray]
              try simp only [List.set_cons_zero, List.set_cons_succ]
              refine AnyX.move (i := 9) (v := ?_) rfl (by kernel_rfl) (by kernel_rfl) (by kernel_rfl) (by kernel_rfl) (fun _ _ _ h => h) (Or.inl ⟨by rfl, ?_⟩) ?_
              rotate_left
              · (intro wS _; go_simp; try with_reducible rfl)
              simp only [List.getElem_toArray, List.getElem_cons_succ, List.getElem_cons_zero]
              simp only [Act.put, List.setIfInBounds_toArray]
              simp only [List.set_cons_zero, List.set_cons_succ]
              refine AnyX.go 10 (by kernel_rfl) rfl rfl (fun K hK => ?_)
              simp only [List.getElem_toArray, List.getElem_cons_succ, List.getElem_cons_zero]
              go_simp
              refine hK.out _ _ (fun hoff _ => absurd hoff (by decide)) ?_
              clear hK
              try simp only [Act.put, List.setIfInBounds_toArray]
              try simp only [List.set_cons_zero, List.set_cons_succ]
              refine AnyX.done (by kernel_rfl) ?_ _
              go_wp2_with fail
              go_roundw
              case rel => exact ⟨k + 1, xs ++ [x], some ⟨gb, 0, none⟩, cap, by omega, by go_num, XN, LM.out.1⟩
              case measure => simp [intOf]; omega
          · have hxs : xs = m.decs.filter fun d => !(d.kind == 3) := by
              have h := HXS.out
              rw [h, List.take_of_length_le (by rw [← HND.out]; omega)]
            have HXF := Lib.hid hxs
            have hxl : xs.length ≤ nd := by rw [hxs, HND.out]; exact List.length_filter_le _ _
            have q0 := Lib.cell_of_heap HQ.out.box 0
            have q1 := Lib.cell_of_heap HQ.out.box 1
            have q2 := Lib.cell_of_heap HQ.out.box 2
            simp at q0 q1 q2
            clear hxs HXS
            have LMo := HQ.out.module z1 z2 (by omega) HNI.out HNc.out
            have HNM : Hid (MoAt wo [.string m.name, .slice Ni m.imps.length Nci, .slice A6 xs.length c6] (noneM m)) := Lib.hid (by rw [show noneM m = { m with decs := xs } by unfold noneM; rw [HXF.out]]; exact LMo.1)
            have HNK : Hid (CapsAt [.string m.name, .slice Ni m.imps.length Nci, .slice A6 xs.length c6] (noneM m)) := Lib.hid (by rw [show noneM m = { m with decs := xs } by unfold noneM; rw [HXF.out]]; exact LMo.2)
            clear LMo
            go_wp2_with fail
            refine (check7_any (noneM m) _ wo HNM.out (fun d hd => (HD.out d (List.mem_filter.1 hd).1).1) HNK.out).mono ?_; rintro e w10 ⟨hck, hb10⟩
            have HB10 := Lib.hid (below_over HBb.out hb10)
            clear q0 q1 q2 x2 hb10 HQ HNM HNK HXF HBo HBb
            obtain ⟨v10, rfl, hof⟩ := of_ck hck (HG0.out _ HB10.out)
            have HOF := Lib.hid hof
            clear hck hof
            go_wp2_with fail
            refine HOF.out.mono ?_; rintro e w11 ⟨cc, ii, rfl, hne6, hb11⟩
            have HB11 := Lib.hid (below_over HB10.out hb11)
            have q6 : (cc != 6) = true := by simpa using hne6
            clear hb11 hne6 HOF
            go_wp2_with fail
            go_ret
            exact ⟨rfl, below_over HBB.out HB11.out⟩

end Go.Proofs.YtapjhmfbmkckaaaGreatDoor
