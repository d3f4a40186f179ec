/-
  Several texts in one: The reference of layer 7: what a type mentions, all in all. · Plain mathematics: texts put in one by one, each at its place, are the sorted list. · The reference of layer 7: the names of what a type mentions, rising.
-/
import Derived.Test.YtapjhmfbmkckaaaGreatDoorJ16
import Derived.Test.YtapjhmfbmkckaaaGreatDoorJ02
import Derived.Lib.QuietBelow
import Derived.BigQuiet
import Derived.Sort.Walk0
/- The reference of layer 7: what a type mentions, all in all. -/
namespace Go.Proofs.YtapjhmfbmkckaaaGreatDoor
open Go.RowKit Go.Shelf
open Go.Sort Go.Maps
open M

open Classical in
/-- How many are not found, as the block has it. -/
noncomputable def unfW (w : World) (fb n : Nat) : Nat := ((List.range n).filter fun i => !decide (w.cell? ⟨fb, i, none⟩ = some (.bool true))).length
theorem unfW_at {w : World} {fb n : Nat} {F : Nat → Bool} (h : FoundAt w fb n F) : unfW w fb n = unf n F := by
  unfold unfW unf
  congr 1
  apply List.filter_congr
  intro i hi
  have hi := List.mem_range.1 hi
  rw [h.cell hi]
  cases F i <;> simp
def lenOf : Value → Nat
  | .slice _ n _ => n
  | _ => 0
def oneOf : Value → Nat
  | .bool true => 1
  | _ => 0
theorem oneN_none {m : Mo} {x : Ty} (h : x.mod.size ≠ 0) : oneN m x = [] := if_neg h
theorem oneN_at {m : Mo} {x : Ty} (h : x.mod.size = 0) : oneN m x = (typAt m x.name).toList := if_pos h
/-- What the reference has found so far. -/
structure Rq (m : Mo) (t : Ty) (fb n lo : Nat) (W : World) (F : Nat → Bool) (L : List Ty) (A : Option Addr) (c : Nat) (wr : World) : Prop where
  below : Below fb W wr
  found : FoundAt wr fb n F
  rch : Rch m t F L
  own : OwnL wr lo (.slice A L.length c) L
  most : L.length + 9000 * unf n F ≤ 9000 * (n + 1)
theorem Rq.drew {m : Mo} {t : Ty} {fb n lo : Nat} {W : World} {F : Nat → Bool} {L : List Ty} {A : Option Addr} {c : Nat} {wr wx : World} (h : Rq m t fb n lo W F L A c wr) (hf : fb ≤ wr.heap.size) (hb : Below wr.heap.size wr wx) : Rq m t fb n lo W F L A c wx :=
  ⟨h.below.trans (hb.mono hf), (hb.block fb h.found.lt).trans h.found, h.rch, h.own.keep (fun b _ hlt => hb.block b hlt), h.most⟩
theorem Rq.leaf {m : Mo} {t : Ty} {fb n : Nat} {W : World} {F : Nat → Bool} {L : List Ty} {A : Option Addr} {c : Nat} {wr : World} {j : Nat} (h : Rq m t fb n (fb + 1) W F L A c wr) (hj : j < n) (hr : Rch m t (fun i => if i = j then true else F i) L) : Rq m t fb n (fb + 1) W (fun i => if i = j then true else F i) L A c (wr.setCell ⟨fb, j, none⟩ (.bool true)) := by
  have ot : ∀ b, b ≠ fb → (wr.setCell ⟨fb, j, none⟩ (.bool true)).heap[b]? = wr.heap[b]? := fun b hb => Below.heap_setCell _ _ _ _ (by show b ≠ fb; exact hb)
  refine ⟨h.below.setCell (Nat.le_refl _) _, h.found.put hj, hr, h.own.keep (fun b hb _ => ot b (by omega)), ?_⟩
  have h1 := unf_le (n := n) (F := F) (F' := fun i => if i = j then true else F i) (fun i hi => by show (if i = j then true else F i) = true; split; rfl; exact hi)
  have h2 := h.most
  have := Nat.mul_le_mul_left 9000 h1
  omega
theorem unf_range (n : Nat) : unf n (fun _ => false) = n := by
  have h : ((List.range n).filter fun i => !(fun (_ : Nat) => false) i) = List.range n := List.filter_eq_self.2 (fun i _ => rfl)
  unfold unf
  rw [h, List.length_range]

set_option maxRecDepth 100000 in
set_option maxHeartbeats 16000000 in
theorem rreach_any (m : Mo) (l : List Value) (t : Ty) (v : Value) (w : World) (h : MoAt w l m) (hv : TyV w v t) (hm : mayM m = true) (ht : saidT m t = (locT t).flatMap (oneN m)) (hM : ∀ d ∈ m.decs, many d.typ ≤ 9000) (hT9 : many t ≤ 9000) :
    Calls Tryz.prog 58 #[.agg l.toArray, v] w fun e w' => ∃ fb, e = .returned (.slice (some ⟨fb, 0, none⟩) m.decs.length m.decs.length) ∧ w.heap.size ≤ fb ∧ FoundAt w' fb m.decs.length (reachB (entries m) (saidT m t)) ∧ Below w.heap.size w w' := by
  have HV := Lib.hid h
  have HTV := Lib.hid hv
  have HMD := Lib.hid (mayM_parts hm).2.2.2
  have hn60 := (mayM_parts hm).2.1
  have HTT := Lib.hid ht
  have HM := Lib.hid hM
  obtain ⟨Ai, ci, Ad, cd, rfl, z1, z2, z3, -, hDm⟩ := h
  have HDm0 := Lib.hid hDm
  obtain ⟨lv, rfl, hvA⟩ := hv
  obtain ⟨An, cA, As, cS, rfl, -⟩ := hvA.parts
  clear hvA hDm hm ht hM
  obtain ⟨W2, hW2, B2, O0, O1, hl2⟩ := two_boxes w #[.string m.name, .slice Ai m.imps.length ci, .slice Ad m.decs.length cd] #[.int .i64 t.kind, .string t.pkg, .int .i64 t.major, .string t.mod, .string t.name, .slice An t.names.length cA, .slice As t.subs.length cS] 25 29
  obtain ⟨n, hn⟩ : ∃ n, n = m.decs.length := ⟨_, rfl⟩
  have HN := Lib.hid hn
  obtain ⟨W3, hW3⟩ : ∃ W3, W3 = W2.alloc (.cells (madeCells (Value.bool false).cells (n * 1)) 4) := ⟨_, rfl⟩
  have B3 : Below W2.heap.size W2 W3 := by rw [hW3]; exact below_new (Below.refl _ _) _
  have F3 : FoundAt W3 W2.heap.size n (fun _ => false) := by
    unfold FoundAt
    rw [hW3, ← made_bools]; exact heap_alloc_new W2 _
  have s3 : W3.heap.size = W2.heap.size + 1 := by rw [hW3]; simp
  obtain ⟨i0, hi, hz0, hz1, hz2⟩ := info_parts bool_info
  have MS := run_makeSlice (P := Tryz.prog) (w := W2) 95 4 i0 (.bool false) Tryz.underlying95 hi hz0 .i64 .i64 (n : Int) (n : Int) (by omega) (by omega) (by rw [hz1]; simp; omega) (by rw [hz2]; omega) (by omega)
  rw [hz1] at MS
  simp only [Int.toNat_natCast] at MS
  rw [← hW3] at MS
  rw [← hn] at O0 hn60 hW2 ⊢
  have o2 := Lib.cell_of_heap O0 2
  simp at o2
  obtain ⟨fb, hfb⟩ : ∃ fb, fb = W2.heap.size := ⟨_, rfl⟩
  have HFB := Lib.hid hfb
  rw [← hfb] at MS F3
  have HP3 : Hid (∀ wx, Below fb W3 wx → wx.heap[w.heap.size]? = some (.cells #[.string m.name, .slice Ai m.imps.length ci, .slice Ad n cd] 25 (0, 0))) := Lib.hid (fun wx hb => (hb.block _ (by omega)).trans ((B3.block _ (by omega)).trans O0))
  have HQ3 : Hid (W3.heap[w.heap.size + 1]? = some (.cells #[.int .i64 t.kind, .string t.pkg, .int .i64 t.major, .string t.mod, .string t.name, .slice An t.names.length cA, .slice As t.subs.length cS] 29 (0, 0))) := Lib.hid ((B3.block _ hl2).trans O1)
  have HB3 : Hid (Below w.heap.size w W3) := Lib.hid (below_over B2 B3)
  have HF3 := Lib.hid F3
  have HW2 := Lib.hid hW2
  have hs3 : W3.heap.size = fb + 1 := by rw [s3, hfb]
  have hfw : w.heap.size + 1 < fb := by rw [hfb]; exact hl2
  have HS3 := Lib.hid hs3
  have HMo : Hid (∀ wx, Below fb W3 wx → MoAt wx [.string m.name, .slice Ai m.imps.length ci, .slice Ad n cd] m) := Lib.hid (fun wx hb => by
    rw [HN.out]
    have h1 : Below w.heap.size w wx := HB3.out.trans (hb.mono (by omega))
    exact HV.out.below h1)
  have HDm : Hid (∀ wx, Below fb W3 wx → RowIn deR wx Ad m.decs) := Lib.hid (fun wx hb => HDm0.out.below (HB3.out.trans (hb.mono (by omega))))
  clear hW2 hW3 B2 B3 O0 O1 F3 s3 hn hi hz0 hz1 hz2 hfb hl2 hs3 HDm0
  go_enter Tryz.func58, Tryz.ntmps58
  go_upto_region 1 with fail
  rw [← HW2.out]
  go_upto_region 2 with fail
  try rw [← HFB.out]
  clear MS o2 HW2
  have Q3 := HQ3.out
  have s0 := Lib.cell_of_heap Q3 0
  have s1 := Lib.cell_of_heap Q3 1
  have s2 := Lib.cell_of_heap Q3 2
  have s3 := Lib.cell_of_heap Q3 3
  have s4 := Lib.cell_of_heap Q3 4
  have s5 := Lib.cell_of_heap Q3 5
  have s6 := Lib.cell_of_heap Q3 6
  simp at s0 s1 s2 s3 s4 s5 s6
  clear Q3
  go_wp2_with fail
  refine (rlocals_any (many t) t (Nat.le_refl _) hT9 _ W3 (HTV.out.below HB3.out)).mono ?_; rintro e w4 ⟨v6, rfl, ho4, hb4⟩
  obtain ⟨A6, c6, rfl⟩ : ∃ A c, v6 = .slice A (locT t).length c := by
    obtain ⟨C, -, -, h3, -⟩ := ho4
    exact own_slice h3
  have START : Hid (Rq m t fb n (fb + 1) W3 (fun _ => false) (locT t) A6 c6 w4) := Lib.hid (by
    have h3 := HS3.out
    refine ⟨hb4.mono (by omega), (hb4.block fb HF3.out.lt).trans HF3.out, Rch.start HTT.out, by rw [← h3]; exact ho4, ?_⟩
    have := locT_len t
    rw [unf_range]; omega)
  clear ho4 hb4 s0 s1 s2 s3 s4 s5 s6 HQ3 HTV HV HF3
  go_wp2_with fail
  go_loopw [6, 7] (fun s6 s7 wr => ∃ (F : Nat → Bool) (L : List Ty) (A : Option Addr) (c : Nat) (b : Bool), s6 = .slice A L.length c ∧ s7 = .bool b ∧ Hid (Rq m t fb n (fb + 1) W3 F L A c wr) ∧ Hid (b = false → ∀ x ∈ L, ∀ i ∈ oneN m x, F i = true)) (fun _ s7 wr => 2 * unfW wr fb n + oneOf s7)
  case atStart => exact ⟨_, _, _, _, true, rfl, rfl, START, Lib.hid (fun h => by cases h)⟩
  case round =>
    obtain ⟨F, L, A, c, b, rfl, rfl, HQ, HC⟩ := hrel
    obtain ⟨wo, rfl⟩ : ∃ wo : World, wo = wr := ⟨_, rfl⟩
    cases b with
    | false =>
      have hall : ∀ i, F i = reachB (entries m) (saidT m t) i := HQ.out.rch.all HMD.out HTT.out (HC.out rfl)
      have FA : Hid (FoundAt wo fb n (reachB (entries m) (saidT m t))) := Lib.hid (by
        have : F = reachB (entries m) (saidT m t) := funext hall
        rw [← this]; exact HQ.out.found)
      have FB : Hid (Below w.heap.size w wo) := Lib.hid (HB3.out.trans (HQ.out.below.mono (by omega)))
      clear hall
      go_wp2_with fail
      go_ret
      exact ⟨fb, rfl, by omega, FA.out, FB.out⟩
    | true =>
      obtain ⟨U, hU⟩ : ∃ U, U = unf n F := ⟨_, rfl⟩
      have HU := Lib.hid hU
      have HMW : Hid (unfW wo fb n = U) := Lib.hid (by rw [unfW_at HQ.out.found, hU])
      clear hU HC
      go_wp2_with fail
      go_loopw [6, 7, 8] (fun s6 s7 s8 wr => ∃ (F : Nat → Bool) (L : List Ty) (A : Option Addr) (c k : Nat) (b : Bool), s6 = .slice A L.length c ∧ s7 = .bool b ∧ s8 = .int .i64 k ∧ k ≤ L.length ∧ Hid (Rq m t fb n (fb + 1) W3 F L A c wr) ∧ Hid (unf n F ≤ U ∧ (b = true → unf n F < U)) ∧ Hid (∀ x ∈ L.take k, ∀ i ∈ oneN m x, F i = true)) (fun s6 _ s8 wr => unfW wr fb n * 10000 + (lenOf s6 - (intOf s8).toNat))
      case atStart => exact ⟨F, L, A, c, 0, false, rfl, rfl, rfl, by omega, HQ, Lib.hid ⟨by rw [HU.out]; exact Nat.le_refl _, fun h => by cases h⟩, Lib.hid (by simp)⟩
      case round =>
        obtain ⟨F, L, A, c, k, b, rfl, rfl, rfl, hk, HQ, HL, HP⟩ := hrel
        obtain ⟨wo, rfl⟩ : ∃ wo : World, wo = wr := ⟨_, rfl⟩
        have hfo : fb < wo.heap.size := HQ.out.found.lt
        have hlm : L.length ≤ 9000 * (n + 1) := by have := HQ.out.most; omega
        by_cases hlt : k < L.length
        · obtain ⟨x, hx⟩ : ∃ x, L[k]? = some x := ⟨_, List.getElem?_eq_getElem hlt⟩
          have hxL := List.mem_of_getElem? hx
          obtain ⟨g, Bn, cB, Bs, dB, rfl, hgl, hg, hc⟩ := HQ.out.own.get hx
          have u3 : wo.cell? ⟨g, k * 7 + 3, none⟩ = some (.string x.mod) := hc 3 _ rfl
          have u4 : wo.cell? ⟨g, k * 7 + 4, none⟩ = some (.string x.name) := hc 4 _ rfl
          have HTK : Hid (L.take (k + 1) = L.take k ++ [x]) := Lib.hid (by rw [List.take_add_one, hx]; rfl)
          have HXL := Lib.hid hxL
          have hk0 : (0 : Int) ≤ k := by omega
          have hk1 : (k : Int) < L.length := by omega
          have STEP : ∀ F' : Nat → Bool, (∀ i, F i = true → F' i = true) → (∀ i ∈ oneN m x, F' i = true) → Hid (∀ y ∈ L.take (k + 1), ∀ i ∈ oneN m y, F' i = true) := fun F' h1 h2 => Lib.hid (fun y hy i hi => by
            rw [HTK.out] at hy
            rcases List.mem_append.1 hy with h | h
            · exact h1 i (HP.out y h i hi)
            · rw [List.mem_singleton.1 h] at hi; exact h2 i hi)
          clear hc hx hxL
          by_cases hz : x.mod.size = 0
          · obtain ⟨e1, e2⟩ := empty_facts _ hz
            have HON : Hid (oneN m x = (typAt m x.name).toList) := Lib.hid (oneN_at hz)
            have X2 := HP3.out wo HQ.out.below
            have x0 := Lib.cell_of_heap X2 0
            have x1 := Lib.cell_of_heap X2 1
            have x2 := Lib.cell_of_heap X2 2
            simp at x0 x1 x2
            obtain ⟨J, hJ⟩ : ∃ J, J = fndN m x.name := ⟨_, rfl⟩
            have cF : ∀ dd os, Calls Tryz.prog 85 #[.agg #[.string m.name, .slice Ai m.imps.length ci, .slice Ad n cd], .string x.name] (Sort.grow (redrawn wo dd) os) fun e w'' => e = .returned (.int .i64 J) ∧ ∃ pp : Regrown, w'' = Sort.grow (redrawn wo pp.d) pp.os := fun dd os => Calls.regrown_of (by rw [hJ]; exact rfind_any m _ x.name _ ((HMo.out wo HQ.out.below).below (below_regrown _ dd os)) (by rw [← HN.out]; omega))
            have HJ := Lib.hid hJ
            clear hz hJ
            go_upto_region 10 with fail
            have p0 := cell_regrown x0
            have p1 := cell_regrown x1
            have p2 := cell_regrown x2
            have p4 := cell_regrown u4
            clear x0 x1 x2 u3 u4 e1 e2 X2
            refine wp_region_quiet_below (by kernel_rfl) (by kernel_rfl) ?_
            repeat (any_goals (first | go_big_quiet_step (with_reducible exact cF _ _) | quiet_step (with_reducible exact cF _ _)))
            refine wpQuiet_nil ?_
            intro w5 hw'
            have HQ5 : Hid (Rq m t fb n (fb + 1) W3 F L (some ⟨g, 0, none⟩) c w5) := Lib.hid (by
              obtain ⟨⟨dq, osq⟩, hw''⟩ := hw'
              rw [hw'']
              exact HQ.out.drew (Nat.le_of_lt hfo) (below_regrown wo dq osq))
            clear hw' cF p0 p1 p2 p4
            have hs5 : fb < w5.heap.size := HQ5.out.found.lt
            have HUW : Hid (unfW wo fb n = unf n F) := Lib.hid (unfW_at HQ.out.found)
            clear HQ
            cases hq : typAt m x.name with
            | none =>
              obtain rfl : J = -1 := by rw [HJ.out]; unfold fndN; rw [hq]
              have HS1 := STEP F (fun _ h => h) (fun i hi => by rw [HON.out, hq] at hi; cases hi)
              have HUW5 : Hid (unfW w5 fb n = unf n F) := Lib.hid (unfW_at HQ5.out.found)
              clear hq STEP
              go_wp2_with fail
              go_roundw
              case rel => exact ⟨F, L, _, c, k + 1, b, rfl, rfl, by go_num, by omega, HQ5, HL, HS1⟩
              case measure => rw [HUW.out, HUW5.out]; simp [intOf, lenOf]; omega
            | some j =>
              obtain rfl : J = (j : Int) := by rw [HJ.out]; unfold fndN; rw [hq]
              have hjn : j < n := by rw [HN.out]; exact typAt_lt hq
              have HO1 : Hid (oneN m x = [j]) := Lib.hid (by rw [HON.out, hq]; rfl)
              have hj0 : (0 : Int) ≤ j := by omega
              have hj1 : (j : Int) < n := by omega
              have hfj := HQ5.out.found.cell hjn
              have hff := Lib.frozen_of_heap HQ5.out.found j
              obtain ⟨d, hd⟩ : ∃ d, m.decs[j]? = some d := ⟨_, List.getElem?_eq_getElem (by rw [← HN.out]; exact hjn)⟩
              clear hq HJ HON
              cases hFj : F j with
              | true =>
                rw [hFj] at hfj
                have HS1 := STEP F (fun _ h => h) (fun i hi => by rw [HO1.out] at hi; rw [List.mem_singleton.1 hi]; exact hFj)
                have HUW5 : Hid (unfW w5 fb n = unf n F) := Lib.hid (unfW_at HQ5.out.found)
                clear hFj STEP hd
                go_wp2_with fail
                go_roundw
                case rel => exact ⟨F, L, _, c, k + 1, b, rfl, rfl, by go_num, by omega, HQ5, HL, HS1⟩
                case measure => rw [HUW.out, HUW5.out]; simp [intOf, lenOf]; omega
              | false =>
                rw [hFj] at hfj
                obtain ⟨w6, hw6⟩ : ∃ w6, w6 = w5.setCell ⟨fb, j, none⟩ (.bool true) := ⟨_, rfl⟩
                have hon : j ∈ oneN m x := by rw [HO1.out]; exact List.mem_singleton.2 rfl
                have HUF : Hid (unf n (fun i => if i = j then true else F i) < unf n F) := Lib.hid (unf_put hjn hFj)
                have HS1 := STEP (fun i => if i = j then true else F i) (fun i hi => by show (if i = j then true else F i) = true; split; rfl; exact hi) (fun i hi => by rw [HO1.out] at hi; rw [List.mem_singleton.1 hi]; simp)
                have hl6 : w6.heap.size = w5.heap.size := by rw [hw6]; simp
                have HB6 : Hid (Below fb W3 w6) := Lib.hid (by rw [hw6]; exact HQ5.out.below.setCell (Nat.le_refl _) _)
                obtain ⟨gd, od, v0, v1, v2, v3, v4, v5, v6, hAd, hgd, a0, a1, t0, t1, t2, t3, t4, t5, t6, us, zs⟩ := RowIn.de (HDm.out w6 HB6.out) hd
                subst hAd
                have X2 := HP3.out w6 HB6.out
                have x2 := Lib.cell_of_heap X2 2
                simp at x2
                have HW6 := Lib.hid hw6
                have HDD := Lib.hid hd
                have HL6 := Lib.hid hl6
                clear hFj STEP hd X2 hl6
                by_cases hk3 : d.kind = 3
                · have q3 : (d.kind == 3) = true := by rw [hk3]; rfl
                  have hmd := HMD.out d (List.mem_of_getElem? HDD.out)
                  have HRA : Hid (Rch m t (fun i => if i = j then true else F i) (L ++ locT d.typ)) := Lib.hid (HQ5.out.rch.alias HXL.out hon HDD.out (loc_dec m hmd).1)
                  have hd9 := HM.out d (List.mem_of_getElem? HDD.out)
                  have hPl : (locT d.typ).length ≤ 9000 := Nat.le_trans (locT_len d.typ) hd9
                  have HLC := Lib.hid (fun (vv : Value) (wx : World) (hh : TyV wx vv d.typ) => rlocals_any (many d.typ) d.typ (Nat.le_refl _) hd9 vv wx hh)
                  obtain ⟨Dn, dN, Ds, dS, rfl, rfl, rfl, rfl, rfl, rfl, rfl⟩ := us.seven
                  have HUS := Lib.hid us
                  have HFD : Hid (FoundAt w6 fb n (fun i => if i = j then true else F i)) := Lib.hid (by rw [hw6]; exact HQ5.out.found.put hjn)
                  have HOW : Hid (OwnL w6 (fb + 1) (.slice (some ⟨g, 0, none⟩) L.length c) L) := Lib.hid (by
                    rw [hw6]
                    exact HQ5.out.own.keep (fun b hb _ => Below.heap_setCell _ _ _ _ (by show b ≠ fb; omega)))
                  have hMOST := HQ5.out.most
                  have hws : w.heap.size < w6.heap.size := by rw [HL6.out]; omega
                  have KEEP : Hid (∀ wx : World, Below w6.heap.size w6 wx → wx.cell? ⟨w.heap.size, 2, none⟩ = some (.slice (some ⟨gd, od, none⟩) n cd) ∧ wx.cell? ⟨gd, od + j * 9 + 2, none⟩ = some (.int .i64 d.typ.kind) ∧ wx.cell? ⟨gd, od + j * 9 + 2 + 1, none⟩ = some (.string d.typ.pkg) ∧ wx.cell? ⟨gd, od + j * 9 + 2 + 2, none⟩ = some (.int .i64 d.typ.major) ∧ wx.cell? ⟨gd, od + j * 9 + 2 + 3, none⟩ = some (.string d.typ.mod) ∧ wx.cell? ⟨gd, od + j * 9 + 2 + 4, none⟩ = some (.string d.typ.name) ∧ wx.cell? ⟨gd, od + j * 9 + 2 + 5, none⟩ = some (.slice Dn d.typ.names.length dN) ∧ wx.cell? ⟨gd, od + j * 9 + 2 + 6, none⟩ = some (.slice Ds d.typ.subs.length dS)) := Lib.hid (fun wx hb =>
                    ⟨(hb.cell (p := ⟨w.heap.size, 2, none⟩) hws).trans x2, (hb.cell (p := ⟨gd, _, none⟩) hgd).trans t0, (hb.cell (p := ⟨gd, _, none⟩) hgd).trans t1, (hb.cell (p := ⟨gd, _, none⟩) hgd).trans t2, (hb.cell (p := ⟨gd, _, none⟩) hgd).trans t3, (hb.cell (p := ⟨gd, _, none⟩) hgd).trans t4, (hb.cell (p := ⟨gd, _, none⟩) hgd).trans t5, (hb.cell (p := ⟨gd, _, none⟩) hgd).trans t6⟩)
                  clear hk3 hw6 us zs a1 hd9
                  go_upto_region 13 with fail
                  rw [← HW6.out]
                  go_upto_region 15 with fail
                  clear x2 t0 t1 t2 t3 t4 t5 t6 a0 q3 hfj hff
                  have hH0 := KEEP.out w6.drew (Below.drew (Below.refl _ _))
                  refine AnyX.start (fun wx => wx.cell? ⟨w.heap.size, 2, none⟩ = some (.slice (some ⟨gd, od, none⟩) n cd) ∧ wx.cell? ⟨gd, od + j * 9 + 2, none⟩ = some (.int .i64 d.typ.kind) ∧ wx.cell? ⟨gd, od + j * 9 + 2 + 1, none⟩ = some (.string d.typ.pkg) ∧ wx.cell? ⟨gd, od + j * 9 + 2 + 2, none⟩ = some (.int .i64 d.typ.major) ∧ wx.cell? ⟨gd, od + j * 9 + 2 + 3, none⟩ = some (.string d.typ.mod) ∧ wx.cell? ⟨gd, od + j * 9 + 2 + 4, none⟩ = some (.string d.typ.name) ∧ wx.cell? ⟨gd, od + j * 9 + 2 + 5, none⟩ = some (.slice Dn d.typ.names.length dN) ∧ wx.cell? ⟨gd, od + j * 9 + 2 + 6, none⟩ = some (.slice Ds d.typ.subs.length dS)) (fun k => decide (10 ≤ k)) (by kernel_rfl) ?_
                  refine AnyX.move (i := 1) (v := ?_) rfl (by kernel_rfl) (by kernel_rfl) (by kernel_rfl) (by kernel_rfl) (fun _ _ _ h => h) (Or.inl ⟨by rfl, ?_⟩) ?_
                  rotate_left
                  · (intro wS _; go_simp; try with_reducible rfl)
                  simp only [List.getElem_toArray, List.getElem_cons_succ, List.getElem_cons_zero]
                  simp only [Act.put, List.setIfInBounds_toArray]
                  simp only [List.set_cons_zero, List.set_cons_succ]
                  refine AnyX.move (i := 3) (v := ?_) rfl (by kernel_rfl) (by kernel_rfl) (by kernel_rfl) (by kernel_rfl) (fun _ _ _ h => h) (Or.inl ⟨by rfl, ?_⟩) ?_
                  rotate_left
                  · (intro wS _; go_simp; try with_reducible rfl)
                  simp only [List.getElem_toArray, List.getElem_cons_succ, List.getElem_cons_zero]
                  simp only [Act.put, List.setIfInBounds_toArray]
                  simp only [List.set_cons_zero, List.set_cons_succ]
                  refine AnyX.take (i := 4) (v := ?_) rfl (by kernel_rfl) (by kernel_rfl) (by kernel_rfl) (by kernel_rfl) (by kernel_rfl) (fun _ _ _ h => h) hH0 (Or.inl ⟨by rfl, ?_⟩) ?_
                  rotate_left
                  · (intro wS hS; (try obtain ⟨c0, d0, d1, d2, d3, d4, d5, d6⟩ := hS); go_simp; try with_reducible rfl)
                  simp only [List.getElem_toArray, List.getElem_cons_succ, List.getElem_cons_zero]
                  simp only [Act.put, List.setIfInBounds_toArray]
                  simp only [List.set_cons_zero, List.set_cons_succ]
                  refine AnyX.move (i := 5) (v := ?_) rfl (by kernel_rfl) (by kernel_rfl) (by kernel_rfl) (by kernel_rfl) (fun _ _ _ h => h) (Or.inl ⟨by rfl, ?_⟩) ?_
                  rotate_left
                  · (intro wS _; go_simp; try with_reducible rfl)
                  simp only [List.getElem_toArray, List.getElem_cons_succ, List.getElem_cons_zero]
                  simp only [Act.put, List.setIfInBounds_toArray]
                  simp only [List.set_cons_zero, List.set_cons_succ]
                  refine AnyX.move (i := 6) (v := ?_) rfl (by kernel_rfl) (by kernel_rfl) (by kernel_rfl) (by kernel_rfl) (fun _ _ _ h => h) (Or.inl ⟨by rfl, ?_⟩) ?_
                  rotate_left
                  · (intro wS _; go_simp; try with_reducible rfl)
                  simp only [List.getElem_toArray, List.getElem_cons_succ, List.getElem_cons_zero]
                  simp only [Act.put, List.setIfInBounds_toArray]
                  simp only [List.set_cons_zero, List.set_cons_succ]
                  refine AnyX.move (i := 7) (v := ?_) rfl (by kernel_rfl) (by kernel_rfl) (by kernel_rfl) (by kernel_rfl) (fun _ _ _ h => h) (Or.inl ⟨by rfl, ?_⟩) ?_
                  rotate_left
                  · (intro wS _; go_simp; try with_reducible rfl)
                  simp only [List.getElem_toArray, List.getElem_cons_succ, List.getElem_cons_zero]
                  simp only [Act.put, List.setIfInBounds_toArray]
                  simp only [List.set_cons_zero, List.set_cons_succ]
                  refine AnyX.take (i := 8) (v := ?_) rfl (by kernel_rfl) (by kernel_rfl) (by kernel_rfl) (by kernel_rfl) (by kernel_rfl) (fun _ _ _ h => h) hH0 (Or.inl ⟨by rfl, ?_⟩) ?_
                  rotate_left
                  · (intro wS hS; (try obtain ⟨c0, d0, d1, d2, d3, d4, d5, d6⟩ := hS); go_simp; try with_reducible rfl)
                  simp only [List.getElem_toArray, List.getElem_cons_succ, List.getElem_cons_zero]
                  simp only [Act.put, List.setIfInBounds_toArray]
                  simp only [List.set_cons_zero, List.set_cons_succ]
                  clear hH0
                  obtain ⟨i0, hi, hz0, hz1, hz2⟩ := info_parts typ_info
                  have own0 : (w6.drew.alloc (.cells #[] 29)).ownsRow w6.heap.size 29 7 (.slice (some ⟨w6.heap.size, 0, none⟩) 0 0) 0 [] := World.ownsRow_lit (base := w6.heap.size) (e := 29) (size := 7) w6.drew #[] 0 (Nat.le_refl _) (by decide) rfl
                  obtain ⟨C, c1, c7, co, ce⟩ := HOW.out
                  have hone : ∀ u ∈ C.flatten, u.oneCell' = true := fun u hu => by
                    obtain ⟨l, hl, hu⟩ := List.mem_flatten.1 hu
                    obtain ⟨i, hi⟩ := List.mem_iff_getElem?.1 hl
                    have hil := (List.getElem?_eq_some_iff.1 hi).1
                    exact (ce i l _ hi (List.getElem?_eq_getElem (by omega))).one u hu
                  have hBa : Below w6.heap.size w6 (w6.drew.alloc (.cells #[] 29)) := below_new (Below.drew (Below.refl _ _)) _
                  have coA : (w6.drew.alloc (.cells #[] 29)).ownsRow (fb + 1) 29 7 (.slice (some ⟨g, 0, none⟩) L.length c) L.length C.flatten := own_from co (fun b _ hlt => hBa.block b hlt)
                  have hMXa : 0 + L.length ≤ maxLen := by unfold maxLen; omega
                  refine AnyX.go 0 (by kernel_rfl) rfl rfl (fun K hK => ?_)
                  simp only [List.getElem_toArray, List.getElem_cons_succ, List.getElem_cons_zero]
                  go_simp
                  refine hK.out _ _ (fun hoff _ => KEEP.out _ (below_new (Below.drew (Below.refl _ _)) _)) ?_
                  clear hK
                  try simp only [Act.put, List.setIfInBounds_toArray]
                  try simp only [List.set_cons_zero, List.set_cons_succ]
                  refine AnyX.go 2 (by kernel_rfl) rfl rfl (fun K hK => ?_)
                  simp only [List.getElem_toArray, List.getElem_cons_succ, List.getElem_cons_zero]
                  refine wp_append_rows (.tmp 55) (.tmp 56) 27 rfl w6.heap.size (fb + 1) 29 i0 _ 7 112 Tryz.underlying27 hi hz0 hz1 hz2 (by rfl) (by decide) (.slice (some ⟨w6.heap.size, 0, none⟩) 0 0) 0 [] rfl own0 (.slice (some ⟨g, 0, none⟩) L.length c) L.length C.flatten rfl coA hone hMXa (by omega) (by simp) ?_
                  intro v57 wA hown hgrow
                  rw [Nat.zero_add, List.nil_append] at hown
                  have HBA : Hid (Below w6.heap.size w6 wA) := Lib.hid (below_grown hBa (by simp) own0 hgrow)
                  clear hgrow coA own0 hBa
                  have KA := KEEP.out wA HBA.out
                  refine hK.out _ _ (fun hoff _ => KA) ?_
                  clear hK
                  try simp only [Act.put, List.setIfInBounds_toArray]
                  try simp only [List.set_cons_zero, List.set_cons_succ]
                  clear KA
                  refine AnyX.go 9 (by kernel_rfl) rfl rfl (fun K hK => ?_)
                  simp only [List.getElem_toArray, List.getElem_cons_succ, List.getElem_cons_zero]
                  go_simp
                  refine (HLC.out (.agg #[.int .i64 d.typ.kind, .string d.typ.pkg, .int .i64 d.typ.major, .string d.typ.mod, .string d.typ.name, .slice Dn d.typ.names.length dN, .slice Ds d.typ.subs.length dS]) wA ⟨_, rfl, HUS.out.keep HBA.out⟩).mono ?_
                  rintro e wB ⟨v64, rfl, hoB, hbB⟩
                  have HBB : Hid (Below w6.heap.size w6 wB) := Lib.hid (below_over HBA.out hbB)
                  have hownB : wB.ownsRow w6.heap.size 29 7 v57 L.length C.flatten := own_from hown (fun b _ hlt => hbB.block b hlt)
                  obtain ⟨D, d1', d7', do', de'⟩ := hoB
                  have hone2 : ∀ u ∈ D.flatten, u.oneCell' = true := fun u hu => by
                    obtain ⟨l, hl, hu⟩ := List.mem_flatten.1 hu
                    obtain ⟨i, hi⟩ := List.mem_iff_getElem?.1 hl
                    have hil := (List.getElem?_eq_some_iff.1 hi).1
                    exact (de' i l _ hi (List.getElem?_eq_getElem (by omega))).one u hu
                  have KB := KEEP.out wB HBB.out
                  have hMXb : L.length + (locT d.typ).length ≤ maxLen := by unfold maxLen; omega
                  refine hK.out _ _ (fun hoff _ => KB) ?_
                  clear hK
                  try simp only [Act.put, List.setIfInBounds_toArray]
                  try simp only [List.set_cons_zero, List.set_cons_succ]
                  clear KB hown hbB
                  refine AnyX.go 10 (by kernel_rfl) rfl rfl (fun K hK => ?_)
                  simp only [List.getElem_toArray, List.getElem_cons_succ, List.getElem_cons_zero]
                  refine wp_append_rows (.tmp 57) (.tmp 64) 27 rfl w6.heap.size wA.heap.size 29 i0 _ 7 112 Tryz.underlying27 hi hz0 hz1 hz2 (by rfl) (by decide) v57 L.length C.flatten rfl hownB v64 (locT d.typ).length D.flatten rfl do' hone2 hMXb (by omega) HBB.out.size ?_
                  intro v65 wC hown hgrow
                  have HBC : Hid (Below w6.heap.size w6 wC) := Lib.hid (below_grown HBB.out HBB.out.size hownB hgrow)
                  have hnew : OwnL wC w6.heap.size v65 (L ++ locT d.typ) := OwnL.joined c1 c7 ce d1' d7' de' hown
                  obtain ⟨A65, c65, rfl⟩ := own_slice hown
                  have hlen : (L ++ locT d.typ).length = L.length + (locT d.typ).length := List.length_append
                  have HQ6 : Hid (Rq m t fb n (fb + 1) W3 (fun i => if i = j then true else F i) (L ++ locT d.typ) A65 c65 wC) := Lib.hid (by
                    have hsz := HL6.out
                    refine ⟨HB6.out.trans (HBC.out.mono (by omega)), (HBC.out.block fb HFD.out.lt).trans HFD.out, HRA.out, by rw [hlen]; exact hnew.mono (by omega), ?_⟩
                    have h1 := HUF.out
                    rw [hlen]; omega)
                  have HS2 : Hid (∀ y ∈ (L ++ locT d.typ).take (k + 1), ∀ i ∈ oneN m y, (fun i => if i = j then true else F i) i = true) := Lib.hid (by
                    rw [List.take_append_of_le_length (by omega)]; exact HS1.out)
                  have HL' : Hid (unf n (fun i => if i = j then true else F i) ≤ U ∧ (true = true → unf n (fun i => if i = j then true else F i) < U)) := Lib.hid (by have h1 := HL.out.1; have h2 := HUF.out; exact ⟨by omega, fun _ => by omega⟩)
                  have HUW6 : Hid (unfW wC fb n = unf n (fun i => if i = j then true else F i)) := Lib.hid (unfW_at HQ6.out.found)
                  clear hown hgrow hnew hownB d1' d7' do' de' hone hone2 c1 c7 co ce hi hz0 hz1 hz2

                  refine hK.out _ _ (fun hoff _ => absurd hoff (by decide)) ?_
                  clear hK
                  try simp only [Act.put, List.setIfInBounds_toArray]
                  try simp only [List.set_cons_zero, List.set_cons_succ]
                  refine AnyX.go 11 (by kernel_rfl) rfl rfl (fun K hK => ?_)
                  simp only [List.getElem_toArray, List.getElem_cons_succ, List.getElem_cons_zero]
                  go_simp
                  refine hK.out _ _ (fun hoff _ => absurd hoff (by decide)) ?_
                  clear hK
                  try simp only [Act.put, List.setIfInBounds_toArray]
                  try simp only [List.set_cons_zero, List.set_cons_succ]
                  refine AnyX.done (by kernel_rfl) ?_ _
                  go_wp2_with fail
                  go_roundw
                  case rel => exact ⟨_, L ++ locT d.typ, A65, c65, k + 1, true, by rw [hlen], rfl, by go_num, by omega, HQ6, HL', HS2⟩
                  case measure =>
                    have h1 := HUF.out
                    rw [HUW.out, HUW6.out]
                    generalize unf n (fun i => if i = j then true else F i) = U6 at h1 ⊢
                    simp [intOf, lenOf]; omega
                · have q3 : (d.kind == 3) = false := by simpa using hk3
                  have HQ6 : Hid (Rq m t fb n (fb + 1) W3 (fun i => if i = j then true else F i) L (some ⟨g, 0, none⟩) c w6) := Lib.hid (by rw [hw6]; exact HQ5.out.leaf hjn (HQ5.out.rch.leaf HXL.out hon HDD.out hk3))
                  have HL' : Hid (unf n (fun i => if i = j then true else F i) ≤ U ∧ (true = true → unf n (fun i => if i = j then true else F i) < U)) := Lib.hid (by have h1 := HL.out.1; have h2 := HUF.out; exact ⟨by omega, fun _ => by omega⟩)
                  have HUW6 : Hid (unfW w6 fb n = unf n (fun i => if i = j then true else F i)) := Lib.hid (unfW_at HQ6.out.found)
                  clear hk3 hw6 HB6 t0 t1 t2 t3 t4 t5 t6 us zs a1
                  go_upto_region 13 with fail
                  rw [← HW6.out]
                  go_wp2_with fail
                  go_roundw
                  case rel => exact ⟨_, L, _, c, k + 1, true, rfl, rfl, by go_num, by omega, HQ6, HL', HS1⟩
                  case measure =>
                    have h1 := HUF.out
                    rw [HUW.out, HUW6.out]
                    generalize unf n (fun i => if i = j then true else F i) = U6 at h1 ⊢
                    simp [intOf, lenOf]; omega
          · obtain ⟨e1, e2⟩ := full_facts _ hz
            have HS1 := STEP F (fun _ h => h) (fun i hi => by rw [oneN_none hz] at hi; cases hi)
            clear hz STEP u4
            go_wp2_with fail
            go_roundw
            case rel => exact ⟨F, L, _, c, k + 1, b, rfl, rfl, by go_num, by omega, HQ, HL, HS1⟩
            case measure => simp [intOf, lenOf]; omega
        · have hkL : k = L.length := by omega
          have HC' : Hid (b = false → ∀ x ∈ L, ∀ i ∈ oneN m x, F i = true) := Lib.hid (fun _ x hx => HP.out x (by rw [List.take_of_length_le (by omega)]; exact hx))
          have HUW : Hid (unfW wo fb n = unf n F) := Lib.hid (unfW_at HQ.out.found)
          go_wp2_with fail
          go_roundw
          case rel => exact ⟨F, L, A, c, b, rfl, rfl, HQ, HC'⟩
          case measure =>
            have h1 := HL.out
            rw [HUW.out, HMW.out]
            cases b with
            | false => simp [oneOf]; omega
            | true => have := h1.2 rfl; simp [oneOf]; omega

end Go.Proofs.YtapjhmfbmkckaaaGreatDoor

/- Plain mathematics: texts put in one by one, each at its place, are the sorted list. -/
namespace Go.Proofs.YtapjhmfbmkckaaaGreatDoor
open Go Go.RowKit
open Go.Sort
open M

abbrev LeL (x y : List UInt8) : Prop := ¬ y < x
theorem leL_trans {x y z : List UInt8} (h1 : LeL x y) (h2 : LeL y z) : LeL x z := List.le_trans (α := UInt8) h1 h2
theorem leL_anti {x y : List UInt8} (h1 : LeL x y) (h2 : LeL y x) : x = y := List.le_antisymm (α := UInt8) h1 h2
theorem leL_lt {x y : List UInt8} (h : x < y) : LeL x y := fun h' => List.lt_irrefl x (List.lt_trans h h')
theorem bl_lt (a b : ByteArray) : Op.bytesLess a.toList b.toList = decide (a.data.toList < b.data.toList) := by rw [bytesLess_eq, Lib.toList_data, Lib.toList_data]
theorem sorted_one : ∀ (l l' : List (List UInt8)), l.Perm l' → l.Pairwise LeL → l'.Pairwise LeL → l = l'
  | [], l', hp, _, _ => (List.nil_perm.1 hp).symm
  | a :: r, [], hp, _, _ => absurd hp.length_eq (by simp)
  | a :: r, b :: r', hp, h1, h2 => by
    rw [List.pairwise_cons] at h1 h2
    have hab : a = b := by
      have ha : a ∈ b :: r' := hp.subset List.mem_cons_self
      have hb : b ∈ a :: r := hp.symm.subset List.mem_cons_self
      rcases List.mem_cons.1 ha with h | h
      · exact h
      · rcases List.mem_cons.1 hb with h' | h'
        · exact h'.symm
        · exact leL_anti (h1.1 b h') (h2.1 a h)
    subst hab
    rw [sorted_one r r' ((List.perm_cons a).1 hp) h1.2 h2.2]
theorem ins_sorted {l : List (List UInt8)} {s : List UInt8} {k : Nat} (hl : l.Pairwise LeL) (h1 : ∀ (i : Nat) (x : List UInt8), i < k → l[i]? = some x → x < s) (h2 : ∀ x, l[k]? = some x → ¬ x < s) : (l.take k ++ s :: l.drop k).Pairwise LeL := by
  have hl' := hl
  rw [← List.take_append_drop k l, List.pairwise_append] at hl'
  obtain ⟨p1, p2, p3⟩ := hl'
  have hd : ∀ y ∈ l.drop k, LeL s y := fun y hy => by
    obtain ⟨i, hi⟩ := List.mem_iff_getElem?.1 hy
    rw [List.getElem?_drop] at hi
    have hkl : k < l.length := by have := (List.getElem?_eq_some_iff.1 hi).1; omega
    have h0 := h2 _ (List.getElem?_eq_getElem hkl)
    cases i with
    | zero =>
      rw [Nat.add_zero, List.getElem?_eq_getElem hkl] at hi
      cases hi; exact h0
    | succ i =>
      obtain ⟨hi', rfl⟩ := List.getElem?_eq_some_iff.1 hi
      exact leL_trans h0 (List.pairwise_iff_getElem.1 hl k (k + (i + 1)) hkl hi' (by omega))
  have ht : ∀ x ∈ l.take k, x < s := fun x hx => by
    obtain ⟨i, hi⟩ := List.mem_iff_getElem?.1 hx
    rw [List.getElem?_take] at hi
    split at hi
    · exact h1 i x (by assumption) hi
    · cases hi
  rw [List.pairwise_append]
  refine ⟨p1, List.pairwise_cons.2 ⟨hd, p2⟩, fun x hx y hy => ?_⟩
  rcases List.mem_cons.1 hy with rfl | hy
  · exact leL_lt (ht x hx)
  · exact p3 x hx y hy
theorem ins_perm {α : Type} (l : List α) (s : α) (k : Nat) : (l.take k ++ s :: l.drop k).Perm (l ++ [s]) := by
  have h1 : (l.take k ++ s :: l.drop k).Perm (s :: (l.take k ++ l.drop k)) := List.perm_middle
  rw [List.take_append_drop] at h1
  exact h1.trans (List.perm_append_singleton s l).symm
/-- What has been put in so far. -/
structure Ins (S R : List ByteArray) : Prop where
  perm : S.Perm R
  sort : (S.map (·.data.toList)).Pairwise LeL
theorem Ins.nil : Ins [] [] := ⟨List.Perm.refl _, List.Pairwise.nil⟩
theorem Ins.more {S R : List ByteArray} {s : ByteArray} {k : Nat} (h : Ins S R) (h1 : ∀ (i : Nat) (x : ByteArray), i < k → S[i]? = some x → Op.bytesLess x.toList s.toList = true) (h2 : ∀ x, S[k]? = some x → Op.bytesLess x.toList s.toList = false) : Ins (S.take k ++ [s] ++ S.drop k) (R ++ [s]) := by
  rw [List.append_assoc]
  refine ⟨(ins_perm S s k).trans (h.perm.append_right [s]), ?_⟩
  rw [List.map_append, List.map_append, List.map_take, List.map_drop]
  refine ins_sorted h.sort (fun i x hi hx => ?_) (fun x hx => ?_)
  · rw [List.getElem?_map] at hx
    obtain ⟨y, hy, rfl⟩ := Option.map_eq_some_iff.1 hx
    have := h1 i y hi hy
    rw [bl_lt] at this
    exact of_decide_eq_true this
  · rw [List.getElem?_map] at hx
    obtain ⟨y, hy, rfl⟩ := Option.map_eq_some_iff.1 hx
    have := h2 y hy
    rw [bl_lt] at this
    exact of_decide_eq_false this
theorem Ins.done {S R : List ByteArray} (h : Ins S R) : S.map (·.data.toList) = sortS R := by
  refine sorted_one _ _ ?_ h.sort ?_
  · exact (h.perm.map _).trans (List.mergeSort_perm _ _).symm
  · unfold sortS
    refine (List.pairwise_mergeSort (le := fun x y => decide (x ≤ y)) (fun a b c h1 h2 => ?_) (fun a b => ?_) _).imp ?_
    · simp only [decide_eq_true_eq] at *
      exact leL_trans h1 h2
    · simp only [Bool.or_eq_true, decide_eq_true_eq]
      exact List.le_total a b
    · intro a b hab
      exact of_decide_eq_true hab

end Go.Proofs.YtapjhmfbmkckaaaGreatDoor

/- The reference of layer 7: the names of what a type mentions, rising. -/
namespace Go.Proofs.YtapjhmfbmkckaaaGreatDoor
open Go Go.RowKit Go.Shelf
open Go.Sort Go.Maps
open M

section
variable {P : Program} {w : World}
/-- append of what a slice, whatever it is, reads as. -/
theorem wpList_append_from {ops : Array Oper} {rest : List Oper} {o : Oper} {a : Act} {Q : Exit → Act → World → Prop} (hgd : o.guard = none) (s x : Operand) (t : TypeId)
    (ho : o.op = .call { callee := .builtin .append, args := #[s, x], argTypes := #[t, t] })
    (base : Nat) (e : TypeId) (i : TypeInfo) (z : Value) (size bytes : Nat) (ht : P.underlying t = some (.slice e)) (hi : P.info? e = some i) (hz : i.zero = some z)
    (hsize : i.size = size) (hby : i.bytes = bytes) (hzs : z.cells.size = size) (hsz : 0 < size)
    (v : Value) (n : Nat) (xs : List Value) (hs : a.eval s = v) (hown : w.ownsRow base e size v n xs) (vx : Value) (m : Nat) (ys : List Value) (hxe : a.eval x = vx)
    (hx : (∃ c, vx = .slice none 0 c ∧ ys = [] ∧ m = 0) ∨ (∃ ad c, vx = .slice (some ad) m c ∧ ys.length = m * size ∧ ∀ j u, ys[j]? = some u → w.cell? (ad.add j) = some u)) (h1 : ∀ u ∈ ys, u.oneCell' = true)
    (h63 : n + m ≤ maxLen) (hbytes : (n + m) * bytes ≤ 140737488355328) (hbase : base ≤ w.heap.size)
    (h : ∀ v' w', w'.ownsRow base e size v' (n + m) (xs ++ ys) → w.grownBy w' v.ownBlock → wpList P ops Q rest (a.put o.dst v') w') : wpList P ops Q (o :: rest) a w := by
  refine wpList_plain hgd fun K hK => ?_
  rcases hx with ⟨c, rfl, rfl, rfl⟩ | ⟨ad, c, rfl, hl, hc⟩
  · have hr := run_append_empty (P := P) (w := w) base t o.type e i size ht hi v n c xs hown
    unfold Oper.wp execOp
    simp only [ho, resolve, invoke, builtin, Sem.run_bind, Sem.run_pure, Result.andThen_ok, List.map_toArray, List.map_cons, List.map_nil, hs, hxe, hr]
    exact hK _ _ (h v w (by rw [List.append_nil]; exact hown) ⟨rfl, rfl, rfl, Nat.le_refl _, fun _ _ _ => rfl⟩)
  · obtain ⟨v', w', hr, h2, h3, -, -⟩ := run_append_own_at (P := P) w base t o.type e i z size bytes ht hi hz hsize hby hzs hsz v n xs hown ad m c ys hl hc h1 h63 hbytes hbase
    unfold Oper.wp execOp
    simp only [ho, resolve, invoke, builtin, Sem.run_bind, Sem.run_pure, Result.andThen_ok, List.map_toArray, List.map_cons, List.map_nil, hs, hxe, hr]
    exact hK _ _ (h v' w' h2 h3)
end

set_option maxRecDepth 100000 in
set_option maxHeartbeats 16000000 in
theorem rment_any (m : Mo) (l : List Value) (t : Ty) (v : Value) (w : World) (h : MoAt w l m) (hv : TyV w v t) (hm : mayM m = true) (ht : saidT m t = (locT t).flatMap (oneN m)) (hM : ∀ d ∈ m.decs, many d.typ ≤ 9000) (hT9 : many t ≤ 9000) :
    Calls Tryz.prog 18 #[.agg l.toArray, v] w fun e w' => ∃ (A : Option Addr) (c : Nat), e = .returned (.slice A (mentN m t m.decs.length).length c) ∧ StrsAt w' A (sortS (mentN m t m.decs.length)) ∧ Below w.heap.size w w' := by
  have hn60 := (mayM_parts hm).2.1
  have RC := Lib.hid (fun w' (hb : Below w.heap.size w w') => rreach_any m l t v w' (h.below hb) (hv.below hb) hm ht hM hT9)
  have HV := Lib.hid h
  obtain ⟨Ai, ci, Ad, cd, rfl, z1, z2, z3, -, hDm⟩ := h
  have HDm0 := Lib.hid hDm
  obtain ⟨lv, rfl, hvA⟩ := hv
  obtain ⟨An, cA, As, cS, rfl, -⟩ := hvA.parts
  clear hvA hDm hm ht hM
  obtain ⟨W2, hW2, B2, O0, O1, hl2⟩ := two_boxes w #[.string m.name, .slice Ai m.imps.length ci, .slice Ad m.decs.length cd] #[.int .i64 t.kind, .string t.pkg, .int .i64 t.major, .string t.mod, .string t.name, .slice An t.names.length cA, .slice As t.subs.length cS] 25 29
  obtain ⟨n, hn⟩ : ∃ n, n = m.decs.length := ⟨_, rfl⟩
  have HN := Lib.hid hn
  have x0 := Lib.cell_of_heap O0 0
  have x1 := Lib.cell_of_heap O0 1
  have x2 := Lib.cell_of_heap O0 2
  have s0 := Lib.cell_of_heap O1 0
  have s1 := Lib.cell_of_heap O1 1
  have s2 := Lib.cell_of_heap O1 2
  have s3 := Lib.cell_of_heap O1 3
  have s4 := Lib.cell_of_heap O1 4
  have s5 := Lib.cell_of_heap O1 5
  have s6 := Lib.cell_of_heap O1 6
  simp at x0 x1 x2 s0 s1 s2 s3 s4 s5 s6
  rw [← hn] at RC x2 O0 hW2 hn60 ⊢
  have HW2 := Lib.hid hW2
  have HB2 := Lib.hid B2
  have HO0 := Lib.hid O0
  clear hW2 B2 O0 O1 hn
  go_enter Tryz.func18, Tryz.ntmps18
  go_upto_region 1 with fail
  rw [← HW2.out]
  clear HW2
  go_wp2_with fail
  refine (RC.out W2 HB2.out).mono ?_; rintro e w3 ⟨fb, rfl, hfb, hF, hb3⟩
  have HF := Lib.hid hF
  have HB3 : Hid (Below w.heap.size w w3) := Lib.hid (below_over HB2.out hb3)
  have HO3 : Hid (w3.heap[w.heap.size]? = some (.cells #[.string m.name, .slice Ai m.imps.length ci, .slice Ad n cd] 25 (0, 0))) := Lib.hid ((hb3.block _ (by omega)).trans HO0.out)
  have hl3 : w.heap.size < w3.heap.size := by have := hb3.size; omega
  have hfl := HF.out.lt
  have HP : Hid (∀ wx, Below w3.heap.size w3 wx → wx.heap[w.heap.size]? = some (.cells #[.string m.name, .slice Ai m.imps.length ci, .slice Ad n cd] 25 (0, 0))) := Lib.hid (fun wx hb => (hb.block _ hl3).trans HO3.out)
  have HDm : Hid (∀ wx, Below w3.heap.size w3 wx → RowIn deR wx Ad m.decs) := Lib.hid (fun wx hb => HDm0.out.below (below_over HB3.out hb))
  clear hb3 hF x0 x1 x2 s0 s1 s2 s3 s4 s5 s6 RC HO0 HO3 HDm0 HV hl2
  go_wp2_with fail
  go_loopw [6, 7] (fun s6 s7 wr => ∃ (k : Nat) (S : List ByteArray) (A : Option Addr) (c : Nat), k ≤ n ∧ s7 = .int .i64 k ∧ s6 = .slice A S.length c ∧ Hid (OwnStr wr w3.heap.size (.slice A S.length c) S) ∧ Hid (Ins S (mentN m t k)) ∧ Hid (Below w3.heap.size w3 wr)) (fun _ s7 _ => n - (intOf s7).toNat)
  case atStart => exact ⟨0, [], none, 0, by omega, rfl, rfl, Lib.hid (World.ownsRow_nil _ _ _ _), Lib.hid (by simpa [mentN] using Ins.nil), Lib.hid (Below.refl _ _)⟩
  case round =>
    obtain ⟨k, S, A6, c6, hk, rfl, rfl, HO, HIN, HBw⟩ := hrel
    obtain ⟨wo, rfl⟩ : ∃ wo : World, wo = wr := ⟨_, rfl⟩
    by_cases hlt : k < n
    · obtain ⟨d, hd⟩ : ∃ d, m.decs[k]? = some d := ⟨_, List.getElem?_eq_getElem (by rw [← HN.out]; exact hlt)⟩
      have f0 : wo.cell? ⟨fb, k, none⟩ = some (.bool (reachB (entries m) (saidT m t) k)) := FoundAt.cell (show FoundAt wo fb n _ from (HBw.out.block fb hfl).trans HF.out) hlt
      have hk0 : (0 : Int) ≤ k := by omega
      have hk1 : (k : Int) < n := by omega
      cases hR : reachB (entries m) (saidT m t) k with
      | false =>
        rw [hR] at f0
        have HST : Hid (mentN m t (k + 1) = mentN m t k) := Lib.hid (mentN_no hR)
        clear hR hd
        go_wp2_with fail
        go_roundw
        case rel => exact ⟨k + 1, S, A6, c6, by omega, by go_num, rfl, HO, by rw [HST.out]; exact HIN, HBw⟩
        case measure => simp [intOf]; omega
      | true =>
        rw [hR] at f0
        have HST : Hid (mentN m t (k + 1) = mentN m t k ++ [d.name]) := Lib.hid (mentN_yes hd hR)
        have HSL : Hid (S.length = (mentN m t k).length) := Lib.hid HIN.out.perm.length_eq
        have hSl : S.length ≤ 60 := by rw [HSL.out]; exact Nat.le_trans (mentN_len m t k) (by omega)
        obtain ⟨gd, od, v0, v1, v2, v3, v4, v5, v6, rfl, hgd, b0, b1, -⟩ := RowIn.de (HDm.out wo HBw.out) hd
        clear hR hd b0
        go_wp2_with fail
        clear f0
        go_loopw [9] (fun s9 wr => ∃ p : Nat, p ≤ S.length ∧ s9 = .int .i64 p ∧ Hid (∀ (i : Nat) (x : ByteArray), i < p → S[i]? = some x → Op.bytesLess x.toList d.name.toList = true) ∧ Hid (Below wo.heap.size wo wr)) (fun s9 _ => S.length - (intOf s9).toNat)
        case atStart => exact ⟨0, by omega, rfl, Lib.hid (fun i x h => by omega), Lib.hid (Below.refl _ _)⟩
        case round =>
          obtain ⟨p, hp, rfl, HLT, HBi⟩ := hrel
          obtain ⟨wi, rfl⟩ : ∃ wi : World, wi = wr := ⟨_, rfl⟩
          obtain ⟨q, hq⟩ : ∃ q, q = (match S[p]? with | some y => Op.bytesLess y.toList d.name.toList | none => false) := ⟨_, rfl⟩
          have HQQ := Lib.hid hq
          have HBiw : Hid (Below w3.heap.size w3 wi) := Lib.hid (below_over HBw.out HBi.out)
          have b1i := (HBi.out.cell (p := ⟨gd, od + k * 9 + 1, none⟩) hgd).trans b1
          have m2 := Lib.cell_of_heap (HP.out wi HBiw.out) 2
          simp at m2
          have hp0 : (0 : Int) ≤ p := by omega
          clear hq
          go_upto_region 9 with fail
          go_cut [40] (fun s40 wx => s40 = .bool q ∧ Below wi.heap.size wi wx)
          case first =>
            by_cases hpl : p < S.length
            · obtain ⟨y, hy⟩ : ∃ y, S[p]? = some y := ⟨_, List.getElem?_eq_getElem hpl⟩
              have hqy : Op.bytesLess y.toList d.name.toList = q := by rw [HQQ.out, hy]
              have hgl : decide ((p : Int) < S.length) = true := by simp; omega
              have hgl2 : decide (p < S.length) = true := by simp; omega
              have hp1 : (p : Int) < S.length := by omega
              have HOi : OwnStr wi w3.heap.size (.slice A6 S.length c6) S := own_from HO.out (fun b _ hlt => HBi.out.block b hlt)
              obtain ⟨g, rfl, hyc⟩ : ∃ g, A6 = some ⟨g, 0, none⟩ ∧ wi.cell? ⟨g, p, none⟩ = some (.string y) := by
                unfold OwnStr at HOi
                rcases HOi.2 with ⟨e, h0⟩ | ⟨g, cap, cur, e, -, hg, -, -, -, htk⟩
                · omega
                · cases e
                  refine ⟨g, rfl, ?_⟩
                  rw [Lib.cell_of_heap hg, ← Array.getElem?_toList]
                  have e : (cur.toList.take (S.length * 1))[p]? = some (.string y) := by rw [htk, List.getElem?_map, hy]; rfl
                  rw [List.getElem?_take] at e
                  split at e
                  · exact e
                  · cases e
              clear hy hpl HOi
              go_quiet (fail)
              go_wp2_with fail
              go_meet
              exact ⟨rfl, below_drewN (Below.refl _ _) _⟩
            · have hgl : decide ((p : Int) < S.length) = false := by simp; omega
              have hgl2 : decide (p < S.length) = false := by simp; omega
              have hq0 : q = false := by rw [HQQ.out, List.getElem?_eq_none (by omega)]
              subst hq0
              clear hpl
              go_quiet (fail)
              go_wp2_with fail
              go_meet
              exact ⟨rfl, below_drewN (Below.refl _ _) _⟩
          case rest =>
            obtain ⟨rfl, hbc⟩ := hcut
            obtain ⟨wy, rfl⟩ : ∃ wy : World, wy = wc := ⟨_, rfl⟩
            have HBwy : Hid (Below wo.heap.size wo wy) := Lib.hid (below_over HBi.out hbc)
            have HBy : Hid (Below w3.heap.size w3 wy) := Lib.hid (below_over HBw.out HBwy.out)
            clear hbc b1i m2
            cases q with
            | true =>
              have hpl : p < S.length := by
                rcases Nat.lt_or_ge p S.length with h | h
                · exact h
                · have := HQQ.out; rw [List.getElem?_eq_none h] at this; cases this
              have HLT' : Hid (∀ (i : Nat) (x : ByteArray), i < p + 1 → S[i]? = some x → Op.bytesLess x.toList d.name.toList = true) := Lib.hid (fun i x hi hx => by
                rcases Nat.lt_or_ge i p with h | h
                · exact HLT.out i x h hx
                · obtain rfl : i = p := by omega
                  have := HQQ.out
                  rw [hx] at this
                  exact this.symm)
              go_wp2_with fail
              go_roundw
              case rel => exact ⟨p + 1, by omega, by go_num, HLT', HBwy⟩
              case measure => simp [intOf]; omega
            | false =>
              have HGE : Hid (∀ x, S[p]? = some x → Op.bytesLess x.toList d.name.toList = false) := Lib.hid (fun x hx => by
                have := HQQ.out
                rw [hx] at this
                exact this.symm)
              clear HQQ
              have HNX : Hid (Ins (S.take p ++ [d.name] ++ S.drop p) (mentN m t (k + 1))) := Lib.hid (by
                rw [HST.out]
                exact HIN.out.more (fun i x hi hx => HLT.out i x hi hx) HGE.out)
              have HOW : OwnStr wy w3.heap.size (.slice A6 S.length c6) S := own_from HO.out (fun b _ hlt => HBwy.out.block b hlt)
              unfold OwnStr at HOW
              obtain ⟨i0, hi, hz0, hz1, hz2⟩ := info_parts mstr_info
              have hwy : w.heap.size < wy.heap.size := Nat.lt_of_lt_of_le hl3 HBy.out.size
              have a1 := Lib.cell_of_heap (HP.out wy HBy.out) 2
              simp at a1
              have hgdy : gd < wy.heap.size := Nat.lt_of_lt_of_le hgd HBwy.out.size
              have b1y := (HBwy.out.cell (p := ⟨gd, od + k * 9 + 1, none⟩) hgd).trans b1
              have hone1 : ∀ u ∈ (S.take p).map Value.string, u.oneCell' = true := fun u hu => by
                obtain ⟨x, -, rfl⟩ := List.mem_map.1 hu
                rfl
              have hone2 : ∀ u ∈ (S.drop p).map Value.string, u.oneCell' = true := fun u hu => by
                obtain ⟨x, -, rfl⟩ := List.mem_map.1 hu
                rfl
              have hM1 : 0 + p ≤ maxLen := by unfold maxLen; omega
              have hM2 : p + 1 ≤ maxLen := by unfold maxLen; omega
              have hM3 : p + 1 + (S.length - p) ≤ maxLen := by unfold maxLen; omega
              have hcap : S.length ≤ c6 := own_cap HOW
              have hpn0 : p ≤ S.length := hp
              have hpi : (p : Int) ≤ S.length := by omega
              have hpi0 : (0 : Int) ≤ p := by omega
              have hpc : (p : Int) ≤ c6 := by omega
              have hpn2 : p ≤ c6 := by omega
              have hsc : (S.length : Int) ≤ c6 := by omega
              obtain ⟨g, rfl, hgo, hgc⟩ | ⟨rfl, rfl, rfl⟩ : (∃ g, A6 = some ⟨g, 0, none⟩ ∧ g < wy.heap.size ∧ ∀ (j : Nat) (u : Value), (S.map Value.string)[j]? = some u → wy.cell? ⟨g, j, none⟩ = some u) ∨ (A6 = none ∧ c6 = 0 ∧ S = []) := by
                rcases HOW.2 with ⟨e, h0⟩ | ⟨g, cap, cur, e, -, hg, -, -, -, htk⟩
                · simp only [Value.slice.injEq] at e
                  exact .inr ⟨e.1, e.2.2, List.length_eq_zero_iff.1 e.2.1⟩
                · cases e
                  refine .inl ⟨g, rfl, (Array.getElem?_eq_some_iff.1 hg).1, fun j u hj => ?_⟩
                  rw [Lib.cell_of_heap hg, ← Array.getElem?_toList]
                  have e : (cur.toList.take (S.length * 1))[j]? = some u := by rw [htk, hj]
                  rw [List.getElem?_take] at e
                  split at e
                  · exact e
                  · cases e
              · have HGC := Lib.hid hgc
                have HTKp : Hid (∀ (j : Nat) (u : Value), ((S.take p).map Value.string)[j]? = some u → wy.cell? ⟨g, j, none⟩ = some u) := Lib.hid (fun j u hj => HGC.out j u (by
                  rw [List.map_take, List.getElem?_take] at hj
                  split at hj
                  · exact hj
                  · cases hj))
                have HDRp : Hid (∀ (j : Nat) (u : Value), ((S.drop p).map Value.string)[j]? = some u → wy.cell? ⟨g, p + j, none⟩ = some u) := Lib.hid (fun j u hj => HGC.out (p + j) u (by rwa [List.map_drop, List.getElem?_drop] at hj))
                clear hgc HOW HO HLT HGE HIN HST HSL
                by_cases hcp : c6 = p
                · go_upto_region 11 with fail
                  go_wp2_with (at_builtin; go_loud (refine wpList_append_from rfl _ _ 26 rfl wy.heap.size 9 i0 _ 1 16 Tryz.underlying26 hi hz0 hz1 hz2 rfl (by decide) (.slice none 0 0) 0 [] rfl (World.ownsRow_nil _ _ _ _) _ p ((S.take p).map Value.string) rfl ?_ hone1 hM1 (by omega) (Nat.le_refl _) ?_))
                  · exact .inr ⟨_, _, rfl, by simp; omega, fun j u hu => by
                      rw [WideShapes.add_plain, Nat.zero_add]; exact HTKp.out j u hu⟩
                  intro v8 w8 hown8 hgrow8
                  replace hown8 : w8.ownsRow wy.heap.size 9 1 v8 p ((S.take p).map Value.string) := by simpa using hown8
                  have HB8 : Hid (Below wy.heap.size wy w8) := Lib.hid (below_grown (Below.refl _ _) (Nat.le_refl _) (World.ownsRow_nil wy wy.heap.size 9 1) hgrow8)
                  have b8 := (HB8.out.cell (p := ⟨gd, od + k * 9 + 1, none⟩) hgdy).trans b1y
                  have a8 := (HB8.out.cell (p := ⟨w.heap.size, 2, none⟩) hwy).trans a1
                  clear hgrow8
                  have hAL : ∀ oo, wy.heap.size ≤ (w8.alloc oo).heap.size := fun oo => by have h1 := HB8.out.size; have e1 : (w8.alloc oo).heap.size = w8.heap.size + 1 := (by simp); omega
                  go_upto_region 13 with (first | (refine wpList_append_lies _ rfl (.tmp 48) (.tmp 55) 26 rfl wy.heap.size 9 i0 _ 1 16 Tryz.underlying26 hi hz0 hz1 hz2 (by rfl) (by decide) v8 p _ rfl (hown8.alloc _) ⟨w8.heap.size, 0, none⟩ 1 1 [.string d.name] rfl rfl (fun q' u hq => by rw [WideShapes.add_plain, Nat.zero_add, Lib.cell_of_heap (heap_alloc_new w8 _), ← hq, ← List.getElem?_toArray]) (fun u hu => by simp at hu; subst hu; rfl) Nat.one_pos hM2 (by omega) (hAL _) _ rfl ?_; intro gb cap w9 hown9 hgrow9 hat9 hlt9))
                  have hlow8 : ∀ b, v8.ownBlock = some b → wy.heap.size ≤ b := fun b e => (hown8.lt b e).1
                  have HB9 : Hid (Below wy.heap.size wy w9) := Lib.hid (HB8.out.trans ⟨hgrow9.os, hgrow9.tape, hgrow9.output, Nat.le_trans (by simp) hgrow9.size, fun b hb => (hgrow9.block b (by have h1 := HB8.out.size; simp; omega) (fun e => by have := hlow8 b e.symm; omega)).trans (Lib.alloc_old _ _ _ (by have h1 := HB8.out.size; omega))⟩)
                  clear hgrow9 hat9 hlt9 hown8 hlow8 hAL b8 a8
                  --T13
                  go_wp2_with (at_builtin; go_loud (refine wpList_append_from rfl _ _ 26 rfl wy.heap.size 9 i0 _ 1 16 Tryz.underlying26 hi hz0 hz1 hz2 rfl (by decide) (.slice (some ⟨gb, 0, none⟩) (p + 1) cap) (p + 1) _ rfl hown9 _ (S.length - p) ((S.drop p).map Value.string) rfl ?_ hone2 hM3 (by omega) HB9.out.size ?_))
                  · exact .inr ⟨_, _, rfl, by simp, fun j u hu => by
                      have := (List.getElem?_eq_some_iff.1 hu).1
                      simp at this; omega⟩
                  intro v10 w10 hown10 hgrow10
                  have HB10 : Hid (Below wy.heap.size wy w10) := Lib.hid (below_grown HB9.out HB9.out.size hown9 hgrow10)
                  have HOF : Hid (OwnStr w10 w3.heap.size v10 (S.take p ++ [d.name] ++ S.drop p)) := Lib.hid (by
                    unfold OwnStr
                    have e : (S.take p ++ [d.name] ++ S.drop p).length = p + 1 + (S.length - p) := by simp; omega
                    have h10 : w10.ownsRow wy.heap.size 9 1 v10 (p + 1 + (S.length - p)) ((S.take p ++ [d.name] ++ S.drop p).map Value.string) := by simpa using hown10
                    rw [e]
                    refine ⟨h10.1, ?_⟩
                    rcases h10.2 with h | ⟨g, cap, cur, hv, hB, rest⟩
                    · exact .inl h
                    · exact .inr ⟨g, cap, cur, hv, Nat.le_trans HBy.out.size hB, rest⟩)
                  obtain ⟨A10, c10, rfl⟩ := own_slice hown10
                  have HLE : Hid ((S.take p ++ [d.name] ++ S.drop p).length = p + 1 + (S.length - p)) := Lib.hid (by simp; omega)
                  have HB11 : Hid (Below w3.heap.size w3 w10) := Lib.hid (below_over HBy.out HB10.out)
                  clear hgrow10 hown10 hown9
                  go_wp2_with fail
                  go_roundw
                  case rel => exact ⟨k + 1, S.take p ++ [d.name] ++ S.drop p, A10, c10, by omega, by go_num, by rw [HLE.out], by rw [HLE.out]; exact HOF.out |> fun h => by (unfold OwnStr at h ⊢; exact Lib.hid h), HNX, HB11⟩
                  case measure => simp [intOf]; omega
                · go_upto_region 11 with fail
                  go_wp2_with (at_builtin; go_loud (refine wpList_append_from rfl _ _ 26 rfl wy.heap.size 9 i0 _ 1 16 Tryz.underlying26 hi hz0 hz1 hz2 rfl (by decide) (.slice none 0 0) 0 [] rfl (World.ownsRow_nil _ _ _ _) _ p ((S.take p).map Value.string) rfl ?_ hone1 hM1 (by omega) (Nat.le_refl _) ?_))
                  · exact .inr ⟨_, _, rfl, by simp; omega, fun j u hu => by
                      rw [WideShapes.add_plain, Nat.zero_add]; exact HTKp.out j u hu⟩
                  intro v8 w8 hown8 hgrow8
                  replace hown8 : w8.ownsRow wy.heap.size 9 1 v8 p ((S.take p).map Value.string) := by simpa using hown8
                  have HB8 : Hid (Below wy.heap.size wy w8) := Lib.hid (below_grown (Below.refl _ _) (Nat.le_refl _) (World.ownsRow_nil wy wy.heap.size 9 1) hgrow8)
                  have b8 := (HB8.out.cell (p := ⟨gd, od + k * 9 + 1, none⟩) hgdy).trans b1y
                  have a8 := (HB8.out.cell (p := ⟨w.heap.size, 2, none⟩) hwy).trans a1
                  clear hgrow8
                  have hAL : ∀ oo, wy.heap.size ≤ (w8.alloc oo).heap.size := fun oo => by have h1 := HB8.out.size; have e1 : (w8.alloc oo).heap.size = w8.heap.size + 1 := (by simp); omega
                  go_upto_region 13 with (first | (refine wpList_append_lies _ rfl (.tmp 48) (.tmp 55) 26 rfl wy.heap.size 9 i0 _ 1 16 Tryz.underlying26 hi hz0 hz1 hz2 (by rfl) (by decide) v8 p _ rfl (hown8.alloc _) ⟨w8.heap.size, 0, none⟩ 1 1 [.string d.name] rfl rfl (fun q' u hq => by rw [WideShapes.add_plain, Nat.zero_add, Lib.cell_of_heap (heap_alloc_new w8 _), ← hq, ← List.getElem?_toArray]) (fun u hu => by simp at hu; subst hu; rfl) Nat.one_pos hM2 (by omega) (hAL _) _ rfl ?_; intro gb cap w9 hown9 hgrow9 hat9 hlt9))
                  have hlow8 : ∀ b, v8.ownBlock = some b → wy.heap.size ≤ b := fun b e => (hown8.lt b e).1
                  have HB9 : Hid (Below wy.heap.size wy w9) := Lib.hid (HB8.out.trans ⟨hgrow9.os, hgrow9.tape, hgrow9.output, Nat.le_trans (by simp) hgrow9.size, fun b hb => (hgrow9.block b (by have h1 := HB8.out.size; simp; omega) (fun e => by have := hlow8 b e.symm; omega)).trans (Lib.alloc_old _ _ _ (by have h1 := HB8.out.size; omega))⟩)
                  clear hgrow9 hat9 hlt9 hown8 hlow8 hAL b8 a8
                  --T13
                  go_wp2_with (at_builtin; go_loud (refine wpList_append_from rfl _ _ 26 rfl wy.heap.size 9 i0 _ 1 16 Tryz.underlying26 hi hz0 hz1 hz2 rfl (by decide) (.slice (some ⟨gb, 0, none⟩) (p + 1) cap) (p + 1) _ rfl hown9 _ (S.length - p) ((S.drop p).map Value.string) rfl ?_ hone2 hM3 (by omega) HB9.out.size ?_))
                  · exact .inr ⟨_, _, rfl, by simp, fun j u hu => by
                      rw [WideShapes.add_plain]; exact (HB9.out.cell (p := ⟨g, p + j, none⟩) hgo).trans (HDRp.out j u hu)⟩
                  intro v10 w10 hown10 hgrow10
                  have HB10 : Hid (Below wy.heap.size wy w10) := Lib.hid (below_grown HB9.out HB9.out.size hown9 hgrow10)
                  have HOF : Hid (OwnStr w10 w3.heap.size v10 (S.take p ++ [d.name] ++ S.drop p)) := Lib.hid (by
                    unfold OwnStr
                    have e : (S.take p ++ [d.name] ++ S.drop p).length = p + 1 + (S.length - p) := by simp; omega
                    have h10 : w10.ownsRow wy.heap.size 9 1 v10 (p + 1 + (S.length - p)) ((S.take p ++ [d.name] ++ S.drop p).map Value.string) := by simpa using hown10
                    rw [e]
                    refine ⟨h10.1, ?_⟩
                    rcases h10.2 with h | ⟨g, cap, cur, hv, hB, rest⟩
                    · exact .inl h
                    · exact .inr ⟨g, cap, cur, hv, Nat.le_trans HBy.out.size hB, rest⟩)
                  obtain ⟨A10, c10, rfl⟩ := own_slice hown10
                  have HLE : Hid ((S.take p ++ [d.name] ++ S.drop p).length = p + 1 + (S.length - p)) := Lib.hid (by simp; omega)
                  have HB11 : Hid (Below w3.heap.size w3 w10) := Lib.hid (below_over HBy.out HB10.out)
                  clear hgrow10 hown10 hown9
                  go_wp2_with fail
                  go_roundw
                  case rel => exact ⟨k + 1, S.take p ++ [d.name] ++ S.drop p, A10, c10, by omega, by go_num, by rw [HLE.out], by rw [HLE.out]; exact HOF.out |> fun h => by (unfold OwnStr at h ⊢; exact Lib.hid h), HNX, HB11⟩
                  case measure => simp [intOf]; omega
              · obtain rfl : p = 0 := by simpa using hpn0
                clear HOW HO HLT HGE HIN HST HSL
                go_upto_region 12 with fail
                have hAL : ∀ oo, wy.heap.size ≤ (wy.alloc oo).heap.size := fun oo => by simp
                have hM4 : 0 + 1 ≤ maxLen := by unfold maxLen; omega
                have hM5 : 1 + 0 ≤ maxLen := by unfold maxLen; omega
                go_upto_region 13 with (first | (refine wpList_append_lies _ rfl (.tmp 48) (.tmp 55) 26 rfl wy.heap.size 9 i0 _ 1 16 Tryz.underlying26 hi hz0 hz1 hz2 (by rfl) (by decide) (.slice none 0 0) 0 [] rfl (World.ownsRow_nil _ _ _ _) ⟨wy.heap.size, 0, none⟩ 1 1 [.string d.name] rfl rfl (fun q' u hq => by rw [WideShapes.add_plain, Nat.zero_add, Lib.cell_of_heap (heap_alloc_new wy _), ← hq, ← List.getElem?_toArray]) (fun u hu => by simp at hu; subst hu; rfl) Nat.one_pos hM4 (by omega) (hAL _) _ rfl ?_; intro gb cap w9 hown9 hgrow9 hat9 hlt9))
                have HB9 : Hid (Below wy.heap.size wy w9) := Lib.hid ((Below.refl wy.heap.size wy).trans ⟨hgrow9.os, hgrow9.tape, hgrow9.output, Nat.le_trans (by simp) hgrow9.size, fun b hb => (hgrow9.block b (Nat.lt_of_lt_of_le hb (by simp)) (by simp [Value.ownBlock])).trans (Lib.alloc_old _ _ _ hb)⟩)
                have h9 : w9.ownsRow wy.heap.size 9 1 (.slice (some ⟨gb, 0, none⟩) 1 cap) 1 [.string d.name] := by simpa using hown9
                clear hgrow9 hat9 hlt9 hown9 hAL
                have HOF : Hid (OwnStr w9 w3.heap.size (.slice (some ⟨gb, 0, none⟩) 1 cap) [d.name]) := Lib.hid (by
                  unfold OwnStr
                  refine ⟨h9.1, ?_⟩
                  rcases h9.2 with h | ⟨g, cap, cur, hv, hB, rest⟩
                  · exact .inl h
                  · exact .inr ⟨g, cap, cur, hv, Nat.le_trans HBy.out.size hB, rest⟩)
                have HNX1 : Hid (Ins [d.name] (mentN m t (k + 1))) := Lib.hid (by simpa using HNX.out)
                have HB11 : Hid (Below w3.heap.size w3 w9) := Lib.hid (below_over HBy.out HB9.out)
                have hcap9 : 1 ≤ cap := own_cap h9
                clear h9
                go_wp2_with fail
                go_roundw
                case rel => exact ⟨k + 1, [d.name], some ⟨gb, 0, none⟩, cap, by omega, by go_num, rfl, HOF, HNX1, HB11⟩
                case measure => simp [intOf]; omega
    · obtain rfl : k = n := by omega
      have FIN : Hid (StrsAt wo A6 (sortS (mentN m t k)) ∧ Below w.heap.size w wo) := Lib.hid (by
        refine ⟨?_, below_over HB3.out HBw.out⟩
        rw [← HIN.out.done]
        intro i x hx
        rw [List.getElem?_map] at hx
        obtain ⟨y, hy, rfl⟩ := Option.map_eq_some_iff.1 hx
        have hil := (List.getElem?_eq_some_iff.1 hy).1
        have HOW := HO.out
        unfold OwnStr at HOW
        rcases HOW.2 with ⟨e, h0⟩ | ⟨g, cap, cur, e, -, hg, -, -, -, htk⟩
        · omega
        · cases e
          refine ⟨g, rfl, (Array.getElem?_eq_some_iff.1 hg).1, ?_⟩
          rw [Lib.cell_of_heap hg, ← Array.getElem?_toList]
          have e : (cur.toList.take (S.length * 1))[i]? = some (.string y) := by rw [htk, List.getElem?_map, hy]; rfl
          rw [List.getElem?_take] at e
          split at e
          · exact e
          · cases e)
      have HLF : Hid ((mentN m t k).length = S.length) := Lib.hid HIN.out.perm.length_eq.symm
      clear HO HIN HBw
      go_wp2_with fail
      go_ret
      exact ⟨A6, c6, by rw [HLF.out]; rfl, FIN.out⟩

end Go.Proofs.YtapjhmfbmkckaaaGreatDoor
