/-
  The walk of the reference's Print: the text of a type that may be.
-/
import Derived.Test.YtnnppdlhmcobcaaDoorTyT
import Derived.Lib.Strings
namespace Go.Proofs.YtnnppdlhmcobcaaDoor
open Go.RowKit
open Go.Sort
open M

theorem tB_eq (t : Ty) : (tB t).data.toList = kindText t.kind t.pkg t.major t.mod t.name t.names (textsT t.subs) := by unfold tB; rw [textT_eq]
theorem row_at (A : Option Addr) (c : Nat) (ss : List Ty) (An : Option Addr) (cn : Nat) (ns : List ByteArray) (x : Int) (r n m : Nat) (w : World) (hx : x = r) (hn : ss.length = n) (hm : ns.length = m) (hr : r ≤ ss.length) (hl : ss.length ≤ 9223372036854775807) (hln : ns.length ≤ 9223372036854775807)
    (hS : SubsAt w A ss) (hN : NamesAt w An ns) (hnr : 0 < ns.length → r ≤ ns.length) (hbr : ∀ k, k ≤ r → (rowOf (textsT ss) ns k).length ≤ 2000000) (hbs : ∀ s, s ∈ ss → (textT s).length ≤ 2000000) (hbn : ∀ i, i < ns.length → (nameAt ns i).size ≤ 20)
    (IH : ∀ s, s ∈ ss → ∀ (v : Value) (w : World), TyV w v s → Calls Tryd.prog 15 #[v] w fun e w' => e = .returned (.string (tB s)) ∧ Below w.heap.size w w') :
    Calls Tryd.prog 26 #[.slice A n c, .slice An m cn, .int .i64 x] w fun e w' => e = .returned (.string (rB (textsT ss) ns r)) ∧ Below w.heap.size w w' := by
  subst hx hn hm; exact row_any A c ss An cn ns r w hr hl hln hS hN hnr hbr hbs hbn IH

set_option maxRecDepth 100000 in
set_option maxHeartbeats 8000000 in
theorem print_any (N : Nat) : ∀ (t : Ty), many t ≤ N → many t ≤ 9000 → allOk t = true → ∀ (v : Value) (w : World), TyV w v t →
    Calls Tryd.prog 15 #[v] w fun e w' => e = .returned (.string (tB t)) ∧ Below w.heap.size w w' := by
  induction N with
  | zero => intro t h; have := many_pos t; omega
  | succ N ih =>
    intro t hN hM hok v w hv
    have hok' : ownOk t = true ∧ allOkL t.subs = true := by rw [allOk_eq] at hok; simpa using hok
    obtain ⟨hown, hall⟩ := hok'
    have hme := manyL_eq t
    have hsub : ∀ s, s ∈ t.subs → many s ≤ N ∧ many s ≤ 9000 ∧ allOk s = true := fun s hs => by
      have := manyL_mem t.subs s hs
      exact ⟨by omega, by omega, (allOkL_mem _).1 hall s hs⟩
    have IH : Hid (∀ s, s ∈ t.subs → ∀ (v : Value) (w : World), TyV w v s → Calls Tryd.prog 15 #[v] w fun e w' => e = .returned (.string (tB s)) ∧ Below w.heap.size w w') :=
      Lib.hid (fun s hs v w hv => ih s (hsub s hs).1 (hsub s hs).2.1 (hsub s hs).2.2 v w hv)
    have hbs : Hid (∀ s, s ∈ t.subs → (textT s).length ≤ 2000000) := Lib.hid (fun s hs => by
      have a := text_len s (hsub s hs).2.2
      have b := (hsub s hs).2.1
      omega)
    have hrow : ∀ ns : List ByteArray, (∀ i, i < ns.length → (nameAt ns i).size ≤ 20) → ∀ k, k ≤ t.subs.length → (rowOf (textsT t.subs) ns k).length ≤ 2000000 := fun ns hn k hk => by
      have a := row_len t.subs ns (texts_len t.subs hall) hn k hk
      have b := manyL_take_le t.subs k
      omega
    have HROW := Lib.hid hrow
    have HNM := Lib.hid (own_names hown)
    have hshape : shapeOk t = true := by
      unfold ownOk at hown
      simp only [Bool.and_eq_true] at hown
      exact hown.2
    have HSH := Lib.hid hshape
    have HLT := Lib.hid (textsT_len t.subs)
    have htl := text_len t hok
    have htb := tB_size t
    have hts : (tB t).size ≤ 2000000 := by omega
    obtain ⟨l, rfl, hT⟩ := hv
    obtain ⟨An, cn, As, cs, rfl, zp, zm, za, hzn, hz, hNA, hS⟩ := hT.parts
    have HS := Lib.hid hS
    have HNA := Lib.hid hNA
    clear hT hS hNA hok hown hall hsub ih hrow hshape htl htb hme hN hM
    by_cases hx : t.kind = 1
    · as_aux_lemma =>
      have HJ : Hid (tB t = ⟨#[73, 110, 116]⟩) := Lib.hid (bytes_ext' (by rw [tB_eq t, hx]; rfl))
      rw [HJ.out]
      have b1 : (t.kind == 1) = true := by rw [hx]; rfl
      clear hx
      go_enter Tryd.func15, Tryd.ntmps15
      go_wp2_with fail
      go_ret
      exact ⟨rfl, below_new (Below.refl _ _) _⟩
    by_cases hx : t.kind = 2
    · as_aux_lemma =>
      have HJ : Hid (tB t = ⟨#[84, 101, 120, 116]⟩) := Lib.hid (bytes_ext' (by rw [tB_eq t, hx]; rfl))
      rw [HJ.out]
      have b1 : (t.kind == 1) = false := by rw [hx]; rfl
      have b2 : (t.kind == 2) = true := by rw [hx]; rfl
      clear hx
      go_enter Tryd.func15, Tryd.ntmps15
      go_wp2_with fail
      go_ret
      exact ⟨rfl, below_new (Below.refl _ _) _⟩
    by_cases hx : t.kind = 3
    · as_aux_lemma =>
      have HJ : Hid (tB t = ⟨#[66, 111, 111, 108]⟩) := Lib.hid (bytes_ext' (by rw [tB_eq t, hx]; rfl))
      rw [HJ.out]
      have b1 : (t.kind == 1) = false := by rw [hx]; rfl
      have b2 : (t.kind == 2) = false := by rw [hx]; rfl
      have b3 : (t.kind == 3) = true := by rw [hx]; rfl
      clear hx
      go_enter Tryd.func15, Tryd.ntmps15
      go_wp2_with fail
      go_ret
      exact ⟨rfl, below_new (Below.refl _ _) _⟩
    by_cases hx : t.kind = 4
    · as_aux_lemma =>
      have hn1 : t.subs.length = 1 := by
        have h := HSH.out
        unfold shapeOk at h
        rw [hx] at h
        simp at h
        omega
      obtain ⟨s, hs⟩ : ∃ s, t.subs[0]? = some s := ⟨_, List.getElem?_eq_getElem (by omega)⟩
      obtain ⟨g, o, v0, v1, v2, v3, v4, v5, v6, rfl, hgl, h0, h1, h2, h3, h4, h5, h6, hs7⟩ := HS.out 0 s hs
      have HJ : Hid (⟨#[76, 105, 115, 116, 40]⟩ ++ tB s ++ ⟨#[41]⟩ = tB t) := Lib.hid (bytes_ext' (by
        rw [tB_eq t, hx]; simp [kindText, tB]; rw [← List.getD_eq_getElem?_getD, textsT_at _ 0 s hs]))
      have IHs := Lib.hid (IH.out s (List.mem_of_getElem? hs) (.agg #[v0, v1, v2, v3, v4, v5, v6]) _ ⟨_, rfl, hs7.keep (below_new (Below.refl _ w) (.cells #[.int .i64 t.kind, .string t.pkg, .int .i64 t.major, .string t.mod, .string t.name, .slice An t.names.length cn, .slice (some ⟨g, o, none⟩) t.subs.length cs] 25))⟩)
      have bs := hbs.out s (List.mem_of_getElem? hs)
      have bt := tB_size s
      have n1 : ¬ (5 + (tB s).size > 9223372036854775807) := by omega
      have n2 : ¬ (5 + (tB s).size + 1 > 9223372036854775807) := by omega
      simp only [Nat.zero_mul, Nat.add_zero] at h0 h1 h2 h3 h4 h5 h6
      rw [hn1] at IHs ⊢
      have b1 : (t.kind == 1) = false := by rw [hx]; rfl
      have b2 : (t.kind == 2) = false := by rw [hx]; rfl
      have b3 : (t.kind == 3) = false := by rw [hx]; rfl
      have b4 : (t.kind == 4) = true := by rw [hx]; rfl
      clear hx hs7 hs bs bt hn1 HSH
      go_enter Tryd.func15, Tryd.ntmps15
      go_wp2_with fail
      refine IHs.out.mono ?_; rintro e w2 ⟨rfl, hb2⟩
      go_wp2_with fail
      rw [HJ.out]
      go_ret
      exact ⟨rfl, (below_new (Below.refl _ _) _).trans (hb2.mono (by simp))⟩
    by_cases hx : t.kind = 5
    · as_aux_lemma =>
      have hnn : t.subs.length = t.names.length := by
        have h := HSH.out
        unfold shapeOk at h
        rw [hx] at h
        simp at h
        omega
      have HJ : Hid (⟨#[123]⟩ ++ rB (textsT t.subs) t.names t.subs.length ++ ⟨#[125]⟩ = tB t) := Lib.hid (bytes_ext' (by
        rw [tB_eq t, hx]; simp [kindText, rB, HLT.out]))
      have bz := rB_size (textsT t.subs) t.names t.subs.length
      have br := HROW.out t.names HNM.out t.subs.length (Nat.le_refl _)
      have n1 : ¬ (1 + (rB (textsT t.subs) t.names t.subs.length).size > 9223372036854775807) := by omega
      have n2 : ¬ (1 + (rB (textsT t.subs) t.names t.subs.length).size + 1 > 9223372036854775807) := by omega
      have HB := Lib.hid (below_new (Below.refl _ w) (.cells #[.int .i64 t.kind, .string t.pkg, .int .i64 t.major, .string t.mod, .string t.name, .slice An t.names.length cn, .slice As t.subs.length cs] 25))
      have ROW := Lib.hid (row_at As cs t.subs An cn t.names _ t.subs.length _ _ _ rfl rfl rfl (Nat.le_refl _) hz hzn (HS.out.below HB.out) (HNA.out.below HB.out) (fun _ => by omega) (HROW.out t.names HNM.out) hbs.out HNM.out IH.out)
      have b1 : (t.kind == 1) = false := by rw [hx]; rfl
      have b2 : (t.kind == 2) = false := by rw [hx]; rfl
      have b3 : (t.kind == 3) = false := by rw [hx]; rfl
      have b4 : (t.kind == 4) = false := by rw [hx]; rfl
      have b5 : (t.kind == 5) = true := by rw [hx]; rfl
      clear hx bz br HSH hnn
      go_enter Tryd.func15, Tryd.ntmps15
      go_wp2_with fail
      refine ROW.out.mono ?_; rintro e w2 ⟨rfl, hb2⟩
      go_wp2_with fail
      rw [HJ.out]
      go_ret
      exact ⟨rfl, (below_new (Below.refl _ _) _).trans (hb2.mono (by simp))⟩
    by_cases hx : t.kind = 6
    · as_aux_lemma =>
      have hnn : t.subs.length = t.names.length := by
        have h := HSH.out
        unfold shapeOk at h
        rw [hx] at h
        simp at h
        omega
      have HJ : Hid (⟨#[91]⟩ ++ rB (textsT t.subs) t.names t.subs.length ++ ⟨#[93]⟩ = tB t) := Lib.hid (bytes_ext' (by
        rw [tB_eq t, hx]; simp [kindText, rB, HLT.out]))
      have bz := rB_size (textsT t.subs) t.names t.subs.length
      have br := HROW.out t.names HNM.out t.subs.length (Nat.le_refl _)
      have n1 : ¬ (1 + (rB (textsT t.subs) t.names t.subs.length).size > 9223372036854775807) := by omega
      have n2 : ¬ (1 + (rB (textsT t.subs) t.names t.subs.length).size + 1 > 9223372036854775807) := by omega
      have HB := Lib.hid (below_new (Below.refl _ w) (.cells #[.int .i64 t.kind, .string t.pkg, .int .i64 t.major, .string t.mod, .string t.name, .slice An t.names.length cn, .slice As t.subs.length cs] 25))
      have ROW := Lib.hid (row_at As cs t.subs An cn t.names _ t.subs.length _ _ _ rfl rfl rfl (Nat.le_refl _) hz hzn (HS.out.below HB.out) (HNA.out.below HB.out) (fun _ => by omega) (HROW.out t.names HNM.out) hbs.out HNM.out IH.out)
      have b1 : (t.kind == 1) = false := by rw [hx]; rfl
      have b2 : (t.kind == 2) = false := by rw [hx]; rfl
      have b3 : (t.kind == 3) = false := by rw [hx]; rfl
      have b4 : (t.kind == 4) = false := by rw [hx]; rfl
      have b5 : (t.kind == 5) = false := by rw [hx]; rfl
      have b6 : (t.kind == 6) = true := by rw [hx]; rfl
      clear hx bz br HSH hnn
      go_enter Tryd.func15, Tryd.ntmps15
      go_wp2_with fail
      refine ROW.out.mono ?_; rintro e w2 ⟨rfl, hb2⟩
      go_wp2_with fail
      rw [HJ.out]
      go_ret
      exact ⟨rfl, (below_new (Below.refl _ _) _).trans (hb2.mono (by simp))⟩
    by_cases hx : t.kind = 7
    · as_aux_lemma =>
      have hn0 : 0 < t.subs.length := by
        have h := HSH.out
        unfold shapeOk at h
        rw [hx] at h
        simp at h
        omega
      obtain ⟨s, hs⟩ : ∃ s, t.subs[t.subs.length - 1]? = some s := ⟨_, List.getElem?_eq_getElem (by omega)⟩
      have HSW : Hid (SubsAt (w.alloc (.cells #[.int .i64 t.kind, .string t.pkg, .int .i64 t.major, .string t.mod, .string t.name, .slice An t.names.length cn, .slice As t.subs.length cs] 25)) As t.subs) := Lib.hid (HS.out.below (below_new (Below.refl _ w) _))
      obtain ⟨g, o, v0, v1, v2, v3, v4, v5, v6, rfl, hgl, h0, h1, h2, h3, h4, h5, h6, hs7⟩ := HSW.out _ s hs
      have HJ : Hid (⟨#[40]⟩ ++ rB (textsT t.subs) [] (t.subs.length - 1) ++ ⟨#[41, 32, 45, 62, 32]⟩ ++ tB s = tB t) := Lib.hid (bytes_ext' (by
        rw [tB_eq t, hx]; simp [kindText, rB, tB, HLT.out]; rw [← List.getD_eq_getElem?_getD, textsT_at _ _ s hs]))
      have bz := rB_size (textsT t.subs) [] (t.subs.length - 1)
      have br := HROW.out [] (fun i hi => by simp at hi) (t.subs.length - 1) (by omega)
      have bs := hbs.out s (List.mem_of_getElem? hs)
      have bt := tB_size s
      have n1 : ¬ (1 + (rB (textsT t.subs) [] (t.subs.length - 1)).size > 9223372036854775807) := by omega
      have n2 : ¬ (1 + (rB (textsT t.subs) [] (t.subs.length - 1)).size + 5 > 9223372036854775807) := by omega
      have n3 : ¬ (1 + (rB (textsT t.subs) [] (t.subs.length - 1)).size + 5 + (tB s).size > 9223372036854775807) := by omega
      have HIH := Lib.hid (IH.out s (List.mem_of_getElem? hs))
      have cP1 : ∀ dd os, Calls Tryd.prog 26 #[.slice (some ⟨g, o, none⟩) t.subs.length cs, .slice none 0 0, .int .i64 ((t.subs.length : Int) - 1)] (Sort.grow (redrawn (w.alloc (.cells #[.int .i64 t.kind, .string t.pkg, .int .i64 t.major, .string t.mod, .string t.name, .slice An t.names.length cn, .slice (some ⟨g, o, none⟩) t.subs.length cs] 25)) dd) os) fun e w'' => e = .returned (.string (rB (textsT t.subs) [] (t.subs.length - 1))) ∧ ∃ pp : Regrown, w'' = Sort.grow (redrawn (w.alloc (.cells #[.int .i64 t.kind, .string t.pkg, .int .i64 t.major, .string t.mod, .string t.name, .slice An t.names.length cn, .slice (some ⟨g, o, none⟩) t.subs.length cs] 25)) pp.d) pp.os := fun dd os => Calls.regrown_of (row_at _ cs t.subs none 0 [] _ (t.subs.length - 1) _ 0 _ (by omega) rfl rfl (by omega) hz (by simp) (HSW.out.below (below_regrown _ dd os)) (fun i s hs => by simp at hs) (fun h => by simp at h) (fun k hk => HROW.out [] (fun i hi => by simp at hi) k (by omega)) hbs.out (fun i hi => by simp at hi) IH.out)
      have cP2 : ∀ dd os, Calls Tryd.prog 15 #[.agg #[v0, v1, v2, v3, v4, v5, v6]] (Sort.grow (redrawn (w.alloc (.cells #[.int .i64 t.kind, .string t.pkg, .int .i64 t.major, .string t.mod, .string t.name, .slice An t.names.length cn, .slice (some ⟨g, o, none⟩) t.subs.length cs] 25)) dd) os) fun e w'' => e = .returned (.string (tB s)) ∧ ∃ pp : Regrown, w'' = Sort.grow (redrawn (w.alloc (.cells #[.int .i64 t.kind, .string t.pkg, .int .i64 t.major, .string t.mod, .string t.name, .slice An t.names.length cn, .slice (some ⟨g, o, none⟩) t.subs.length cs] 25)) pp.d) pp.os := fun dd os => Calls.regrown_of (HIH.out _ _ ⟨_, rfl, hs7.keep (below_regrown _ dd os)⟩)
      have y6 : (w.alloc (.cells #[.int .i64 t.kind, .string t.pkg, .int .i64 t.major, .string t.mod, .string t.name, .slice An t.names.length cn, .slice (some ⟨g, o, none⟩) t.subs.length cs] 25)).cell? ⟨w.heap.size, 6, none⟩ = some (.slice (some ⟨g, o, none⟩) t.subs.length cs) := by go_simp
      have p0 := cell_regrown h0
      have p1 := cell_regrown h1
      have p2 := cell_regrown h2
      have p3 := cell_regrown h3
      have p4 := cell_regrown h4
      have p5 := cell_regrown h5
      have p6 := cell_regrown h6
      have p7 := cell_regrown y6
      generalize hnn : t.subs.length = n at *
      have s1 : IntKind.i64.wrap ((n : Int) - 1) = (n : Int) - 1 := IntWalk.i64_in _ (by omega)
      have s2 : 0 ≤ (n : Int) - 1 := by omega
      have s3 : ((n : Int) - 1).toNat = n - 1 := by omega
      have b1 : (t.kind == 1) = false := by rw [hx]; rfl
      have b2 : (t.kind == 2) = false := by rw [hx]; rfl
      have b3 : (t.kind == 3) = false := by rw [hx]; rfl
      have b4 : (t.kind == 4) = false := by rw [hx]; rfl
      have b5 : (t.kind == 5) = false := by rw [hx]; rfl
      have b6 : (t.kind == 6) = false := by rw [hx]; rfl
      have b7 : (t.kind == 7) = true := by rw [hx]; rfl
      clear hx h0 h1 h2 h3 h4 h5 h6 y6 hs hs7 bs bt bz br HSH
      go_enter Tryd.func15, Tryd.ntmps15
      go_wp2_with fail
      refine wp_region_quiet_below (by kernel_rfl) (by kernel_rfl) ?_
      repeat (any_goals (first | go_big_quiet_step (first | (with_reducible exact cP1 _ _) | (with_reducible exact cP2 _ _)) | quiet_step (first | (with_reducible exact cP1 _ _) | (with_reducible exact cP2 _ _))))
      refine wpQuiet_nil ?_
      intro _ hw'
      obtain ⟨⟨dq, osq⟩, hw''⟩ := hw'
      subst hw''
      have hb3 := below_regrown (w.alloc (.cells #[.int .i64 t.kind, .string t.pkg, .int .i64 t.major, .string t.mod, .string t.name, .slice An t.names.length cn, .slice (some ⟨g, o, none⟩) n cs] 25)) dq osq
      go_wp2_with fail
      rw [HJ.out]
      go_ret
      exact ⟨rfl, below_over (below_new (Below.refl _ _) _) hb3⟩
    by_cases hx : t.kind = 9
    · as_aux_lemma =>
      have hm : (1 ≤ t.major ∧ t.major ≤ 999999999) ∧ t.pkg.size ≤ 20 ∧ t.mod.size ≤ 20 ∧ t.name.size ≤ 20 := by
        have h := HSH.out
        unfold shapeOk at h
        rw [hx] at h
        simp at h
        exact ⟨⟨h.1.2, h.2⟩, small_len h.1.1.1.1.2, small_len h.1.1.1.2, great_len h.1.1.2⟩
      obtain ⟨⟨m1, m2⟩, z1, z2, z3⟩ := hm
      have z4 := dec_size t.major (by omega) (by omega)
      have HJ : Hid (⟨#[60]⟩ ++ t.pkg ++ ⟨#[32]⟩ ++ dec t.major ++ ⟨#[32]⟩ ++ t.mod ++ ⟨#[32]⟩ ++ t.name ++ ⟨#[62]⟩ = tB t) := Lib.hid (bytes_ext' (by
        rw [tB_eq t, hx]; simp [kindText]))
      have n1 : ¬ (1 + t.pkg.size > 9223372036854775807) := by omega
      have n2 : ¬ (1 + t.pkg.size + 1 > 9223372036854775807) := by omega
      have n3 : ¬ (1 + t.pkg.size + 1 + (dec t.major).size > 9223372036854775807) := by omega
      have n4 : ¬ (1 + t.pkg.size + 1 + (dec t.major).size + 1 > 9223372036854775807) := by omega
      have n5 : ¬ (1 + t.pkg.size + 1 + (dec t.major).size + 1 + t.mod.size > 9223372036854775807) := by omega
      have n6 : ¬ (1 + t.pkg.size + 1 + (dec t.major).size + 1 + t.mod.size + 1 > 9223372036854775807) := by omega
      have n7 : ¬ (1 + t.pkg.size + 1 + (dec t.major).size + 1 + t.mod.size + 1 + t.name.size > 9223372036854775807) := by omega
      have n8 : ¬ (1 + t.pkg.size + 1 + (dec t.major).size + 1 + t.mod.size + 1 + t.name.size + 1 > 9223372036854775807) := by omega
      have cD : ∀ dd os, Calls Tryd.prog 27 #[.int .i64 t.major] (Sort.grow (redrawn (w.alloc (.cells #[.int .i64 t.kind, .string t.pkg, .int .i64 t.major, .string t.mod, .string t.name, .slice An t.names.length cn, .slice As t.subs.length cs] 25)) dd) os) fun e w'' => e = .returned (.string (dec t.major)) ∧ ∃ pp : Regrown, w'' = Sort.grow (redrawn (w.alloc (.cells #[.int .i64 t.kind, .string t.pkg, .int .i64 t.major, .string t.mod, .string t.name, .slice An t.names.length cn, .slice As t.subs.length cs] 25)) pp.d) pp.os := fun dd os => Calls.regrown_of (digits_any _ _ (by omega) (by omega))
      have y1 : (w.alloc (.cells #[.int .i64 t.kind, .string t.pkg, .int .i64 t.major, .string t.mod, .string t.name, .slice An t.names.length cn, .slice As t.subs.length cs] 25)).cell? ⟨w.heap.size, 1, none⟩ = some (.string t.pkg) := by go_simp
      have y2 : (w.alloc (.cells #[.int .i64 t.kind, .string t.pkg, .int .i64 t.major, .string t.mod, .string t.name, .slice An t.names.length cn, .slice As t.subs.length cs] 25)).cell? ⟨w.heap.size, 2, none⟩ = some (.int .i64 t.major) := by go_simp
      have y3 : (w.alloc (.cells #[.int .i64 t.kind, .string t.pkg, .int .i64 t.major, .string t.mod, .string t.name, .slice An t.names.length cn, .slice As t.subs.length cs] 25)).cell? ⟨w.heap.size, 3, none⟩ = some (.string t.mod) := by go_simp
      have y4 : (w.alloc (.cells #[.int .i64 t.kind, .string t.pkg, .int .i64 t.major, .string t.mod, .string t.name, .slice An t.names.length cn, .slice As t.subs.length cs] 25)).cell? ⟨w.heap.size, 4, none⟩ = some (.string t.name) := by go_simp
      have p1 := cell_regrown y1
      have p2 := cell_regrown y2
      have p3 := cell_regrown y3
      have p4 := cell_regrown y4
      have b1 : (t.kind == 1) = false := by rw [hx]; rfl
      have b2 : (t.kind == 2) = false := by rw [hx]; rfl
      have b3 : (t.kind == 3) = false := by rw [hx]; rfl
      have b4 : (t.kind == 4) = false := by rw [hx]; rfl
      have b5 : (t.kind == 5) = false := by rw [hx]; rfl
      have b6 : (t.kind == 6) = false := by rw [hx]; rfl
      have b7 : (t.kind == 7) = false := by rw [hx]; rfl
      have b9 : (t.kind == 9) = true := by rw [hx]; rfl
      clear hx y1 y2 y3 y4 HSH z4
      go_enter Tryd.func15, Tryd.ntmps15
      go_wp2_with fail
      refine wp_region_quiet_below (by kernel_rfl) (by kernel_rfl) ?_
      repeat (any_goals (first | go_big_quiet_step (with_reducible exact cD _ _) | quiet_step (with_reducible exact cD _ _)))
      refine wpQuiet_nil ?_
      intro _ hw'
      obtain ⟨⟨dq, osq⟩, hw''⟩ := hw'
      subst hw''
      have hb3 := below_regrown (w.alloc (.cells #[.int .i64 t.kind, .string t.pkg, .int .i64 t.major, .string t.mod, .string t.name, .slice An t.names.length cn, .slice As t.subs.length cs] 25)) dq osq
      go_wp2_with fail
      rw [HJ.out]
      go_ret
      exact ⟨rfl, below_over (below_new (Below.refl _ _) _) hb3⟩
    have hxs : t.kind ≠ 1 ∧ t.kind ≠ 2 ∧ t.kind ≠ 3 ∧ t.kind ≠ 4 ∧ t.kind ≠ 5 ∧ t.kind ≠ 6 ∧ t.kind ≠ 7 ∧ t.kind ≠ 9 := by
      refine ⟨?_, ?_, ?_, ?_, ?_, ?_, ?_, ?_⟩ <;> assumption
    obtain ⟨x1, x2, x3, x4, x5, x6, x7, x9⟩ := hxs
    have b1 : (t.kind == 1) = false := by simpa using x1
    have b2 : (t.kind == 2) = false := by simpa using x2
    have b3 : (t.kind == 3) = false := by simpa using x3
    have b4 : (t.kind == 4) = false := by simpa using x4
    have b5 : (t.kind == 5) = false := by simpa using x5
    have b6 : (t.kind == 6) = false := by simpa using x6
    have b7 : (t.kind == 7) = false := by simpa using x7
    have b9 : (t.kind == 9) = false := by simpa using x9
    have h8 : t.kind = 8 := by
      have h := HSH.out
      unfold shapeOk at h
      rw [if_neg (by omega), if_neg x4, if_neg x5, if_neg x6, if_neg x7] at h
      by_cases e : t.kind = 8
      · exact e
      · rw [if_neg e, if_neg x9] at h; cases h
    have hm : t.mod.size ≤ 20 ∧ t.name.size ≤ 20 := by
      have h := HSH.out
      unfold shapeOk at h
      rw [h8] at h
      simp [emptyB] at h
      have hz8 : t.mod.size ≤ 20 := by
        rcases h.2 with h | h
        · exact small_len h
        · rw [h]; exact Nat.zero_le _
      exact ⟨hz8, great_len h.1.2⟩
    obtain ⟨z1, z2⟩ := hm
    by_cases hmod : t.mod.size = 0
    · as_aux_lemma =>
      obtain ⟨e1, e2⟩ : t.mod.toList = [] ∧ t.mod.toList.isEmpty = true := by
        have hl : t.mod.data.toList = [] := by rw [← List.length_eq_zero_iff, len_size]; exact hmod
        have g1 : t.mod.toList = [] := by rw [Lib.toList_data, hl]
        exact ⟨g1, by rw [g1]; rfl⟩
      have HJ : Hid (tB t = t.name) := Lib.hid (bytes_ext' (by rw [tB_eq t, h8]; simp [kindText, hmod]))
      rw [HJ.out]
      clear x1 x2 x3 x4 x5 x6 x7 x9 h8 hmod HSH
      go_enter Tryd.func15, Tryd.ntmps15
      go_wp2_with fail
      go_ret
      exact ⟨rfl, below_new (Below.refl _ _) _⟩
    · as_aux_lemma =>
      obtain ⟨e1, e2⟩ : ¬ t.mod.toList = [] ∧ t.mod.toList.isEmpty = false := by
        have hl : t.mod.data.toList ≠ [] := by intro e; apply hmod; rw [← len_size, e]; rfl
        have g1 : ¬ t.mod.toList = [] := by rw [Lib.toList_data]; exact hl
        exact ⟨g1, by simpa using g1⟩
      have HJ : Hid (t.mod ++ ⟨#[46]⟩ ++ t.name = tB t) := Lib.hid (bytes_ext' (by rw [tB_eq t, h8]; simp [kindText, hmod]))
      have n1 : ¬ (t.mod.size + 1 > 9223372036854775807) := by omega
      have n2 : ¬ (t.mod.size + 1 + t.name.size > 9223372036854775807) := by omega
      clear x1 x2 x3 x4 x5 x6 x7 x9 h8 hmod HSH
      go_enter Tryd.func15, Tryd.ntmps15
      go_wp2_with fail
      rw [HJ.out]
      go_ret
      exact ⟨rfl, below_new (Below.refl _ _) _⟩

end Go.Proofs.YtnnppdlhmcobcaaDoor
