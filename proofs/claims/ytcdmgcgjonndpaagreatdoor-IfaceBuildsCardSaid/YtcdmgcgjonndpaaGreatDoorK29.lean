/-
  Several texts in one.
-/
import Derived.Test.YtcdmgcgjonndpaaGreatDoorK28
open List (getElem_toArray getElem_cons_succ getElem_cons_zero set_cons_zero set_cons_succ setIfInBounds_toArray)
set_option maxRecDepth 100000
set_option maxHeartbeats 16000000
namespace Go.Proofs.YtcdmgcgjonndpaaGreatDoor
open Go Go.RowKit Go.Shelf
open Go.Sort Go.Maps
open M
theorem ok_names {t : Ty} (h : allOk t = true) : t.names.length <= 200 := by
 have := fit_ok (many t) t (Nat.le_refl _) h
 cases t with | mk k p j d n ns ss => unfold fitT at this; exact this.1.2.2.2.1
theorem rx_any (w0 : World) (m : Mo) (lm : List Value) (pkg : ByteArray) (major : Int) (Ae : Option Addr) (ce : Nat) (env : List If) (hMo : MoAt w0 lm m) (hND : m.decs.length <= 1000000) (hE : RowIn ifR w0 Ae env) (hel : env.length <= 9223372036854775807) (h9 : ∀ x ∈ env, ∀ y ∈ x.types, many y.typ <= 9000)
  (hm : mayM m = true) (hp : smallB pkg.data.toList = true) (h1 : 1 <= major) (h2 : major <= 999999999) : ∀ (h : Nat) (t u : Ty), allOk t = true -> ExpH (meanT m pkg major env) h t u -> RxCall w0 lm pkg major Ae env.length ce t u := by
 have hpk : pkg.size <= 9223372036854775807 := by have := small_size hp; omega
 have node : ∀ (h : Nat), (∀ (t u : Ty), allOk t = true -> ExpH (meanT m pkg major env) h t u -> RxCall w0 lm pkg major Ae env.length ce t u) -> ∀ (t u : Ty), allOk t = true -> t.kind ≠ 8 -> ExpH (meanT m pkg major env) (h + 1) t u -> RxNode w0 lm pkg major Ae env.length ce t u := by
  intro h ih t u ht h8 hx;rcases hx with ⟨e, -⟩ | ⟨-, us, rfl, hl, hk⟩
  ·exact absurd e h8
  ·have ha := ht
   rw [allOk_eq, Bool.and_eq_true] at ha;exact ⟨h8, ok_names ht, us, rfl, hl, fun i s v hs hv => ih s v ((allOkL_mem _).1 ha.2 s (List.mem_of_getElem? hs)) (hk i s v hs hv)⟩
 intro h
 induction h with
 | zero => intro t u _ hx; exact hx.elim
 | succ h ih =>
  intro t u ht hx;refine rx_step w0 m lm pkg major Ae ce env hMo hND hpk hE hel h9 t u ?_;by_cases h8 : t.kind = 8
  ·rcases hx with ⟨-, s, hs, hx⟩ | ⟨e, -⟩
   ·have hso := mean_ok hm hp h1 h2 ht h8 hs
    exact .inl ⟨h8, s, hs, ih s u hso hx, fun hs8 => node h ih s u hso hs8 (hx.mono (by omega))⟩
   ·exact absurd h8 e
  ·exact .inr (node h ih t u ht h8 hx)
theorem mayN_iff {m : Mo} {pkg : ByteArray} {major : Int} {env : List If} : MayN m pkg major env ↔ mayM m = true /\ Ok7 m /\ smallB pkg.data.toList = true /\ 1 <= major /\ major <= 999999999 /\ env.length <= 100 := by
 refine ⟨mayN_parts, fun ⟨h1, h2, h3, h4, h5, h6⟩ => ⟨⟨h1, h2⟩, ?_, h6⟩⟩
 unfold mayT
 rw [open_ok h1 h3 h4 h5 (by decide +kernel)]
 simp [openT, many, deep, manyL, deepL]
theorem rk_ok {m : Mo} {b p : Int} (h : RkOut m b p) : b = 0 ↔ mayM m = true /\ Ok7 m := by
 rcases h with ⟨h1, rfl, -⟩ | ⟨h1, h⟩
 ·refine ⟨fun h => absurd h (by decide), fun h => ?_⟩
  rw [h1] at h; cases h.1
 ·cases hc : check7 m with
  | none => rw [hc] at h; exact ⟨fun _ => ⟨h1, check7_none.1 hc⟩, fun _ => h.1⟩
  | some q =>
   obtain ⟨i, c⟩ := q;rw [hc] at h;obtain ⟨n, rfl, h3, -⟩ := check7_code hc;obtain ⟨rfl, -⟩ := h;refine ⟨fun h => by omega, fun h => ?_⟩;have := check7_none.2 h.2
   rw [hc] at this; cases this
theorem ep_one {m : Mo} {pkg : ByteArray} {major : Int} {env : List If} {t u u' : Ty} {c c' : Int} (h : EpIs m pkg major env t c u) (h' : EpIs m pkg major env t c' u') : c = c' /\ u = u' := by
 rcases h with ⟨rfl, rfl, h⟩ | ⟨h1, h2, h⟩
 ·rcases h' with ⟨rfl, rfl, -⟩ | ⟨h1, h2, -⟩
  ·exact ⟨rfl, rfl⟩
  ·exact absurd ⟨h1, h2⟩ h
 ·rcases h' with ⟨-, -, h'⟩ | ⟨-, -, h'⟩
  ·exact absurd ⟨h1, h2⟩ h'
  ·rcases h with ⟨rfl, rfl, h⟩ | ⟨hk, h⟩
   ·rcases h' with ⟨rfl, rfl, -⟩ | ⟨hk, -⟩
    ·exact ⟨rfl, rfl⟩
    ·rw [h] at hk; cases hk
   ·rcases h' with ⟨-, -, h'⟩ | ⟨-, h'⟩
    ·rw [hk] at h'; cases h'
    ·rcases h with ⟨rfl, rfl, h⟩ | ⟨hl, h⟩
     ·rcases h' with ⟨rfl, rfl, -⟩ | ⟨hl, -⟩
      ·exact ⟨rfl, rfl⟩
      ·rw [h] at hl; cases hl
     ·rcases h' with ⟨-, -, h'⟩ | ⟨-, h'⟩
      ·rw [hl] at h'; cases h'
      ·obtain ⟨k, x, hx, h⟩ := h
       obtain ⟨k', x', hx', h'⟩ := h';obtain rfl := exp_one _ _ _ _ _ hx hx';rcases h with ⟨rfl, rfl, h⟩ | ⟨rfl, rfl, ha, hb⟩
       ·rcases h' with ⟨rfl, rfl, -⟩ | ⟨-, -, ha, hb⟩
        ·exact ⟨rfl, rfl⟩
        ·omega
       ·rcases h' with ⟨-, -, h'⟩ | ⟨rfl, rfl, -⟩
        ·omega
        ·exact ⟨rfl, rfl⟩
def RaOut (m : Mo) (pkg : ByteArray) (major : Int) (env : List If) (t : Ty) (w : World) (e : Ending) (w' : World) : Prop :=
 ∃ (c : Int) (u : Ty) (l : List Value), EpIs m pkg major env t c u /\ e = .returned (.tuple #[.agg l.toArray, .int .i64 c]) /\ TyAt w' l u /\ Below w.heap.size w w'
theorem ra_zero {m : Mo} {pkg : ByteArray} {major : Int} {env : List If} {t : Ty} {c : Int} {w wk : World} (hb : Below w.heap.size w wk) (h : EpIs m pkg major env t c zTy) :
  RaOut m pkg major env t w (.returned (.tuple #[.agg #[.int .i64 0, .string ⟨#[]⟩, .int .i64 0, .string ⟨#[]⟩, .string ⟨#[]⟩, .slice none 0 0, .slice none 0 0], .int .i64 c])) (wk.setRow (w.heap.size + 1 + 1) #[.int .i64 0, .string ⟨#[]⟩, .int .i64 0, .string ⟨#[]⟩, .string ⟨#[]⟩, .slice none 0 0, .slice none 0 0]) :=
 ⟨c, zTy, [.int .i64 0, .string ⟨#[]⟩, .int .i64 0, .string ⟨#[]⟩, .string ⟨#[]⟩, .slice none 0 0, .slice none 0 0], h, rfl, zero_at _, setRow_below hb (by omega) _⟩
theorem allK_le {m : Mo} {t : Ty} {f : Ty -> Bool} : ∀ (n k : Nat), k <= n -> (allK m t k).any f = true -> (allK m t n).any f = true := by
  intro n;induction n with
  | zero => intro k hk h; obtain rfl : k = 0 := by omega
            exact h
  | succ n ih =>
    intro k hk h;rcases Nat.lt_or_ge k (n + 1) with c | c
    · have h1 := ih k (by omega) h
      unfold allK at h1 ⊢
      rw [List.any_cons, Bool.or_eq_true] at h1 ⊢;rcases h1 with h1 | h1
      · exact .inl h1
      · refine .inr ?_
        rw [List.range_succ, List.filterMap_append, List.any_append, h1]; rfl
    · obtain rfl : k = n + 1 := by omega
      exact h
theorem rall_any (m : Mo) (lm : List Value) (pkg : ByteArray) (major : Int) (env : List If) (Ae : Option Addr) (ce : Nat) (t : Ty) (lt : List Value) (w : World) (hMo : MoAt w lm m) (hpk : pkg.size <= 9223372036854775807) (hE : RowIn ifR w Ae env) (hel : env.length <= 9223372036854775807) (h9 : ∀ x ∈ env, ∀ y ∈ x.types, many y.typ <= 9000) (hT : TyAt w lt t) (hM : ∀ d ∈ m.decs, many d.typ <= 9000) (hT9 : many t <= 9000) :
  Calls Tryz.prog 24 #[.agg lm.toArray, .string pkg, .int .i64 major, .slice Ae env.length ce, .agg lt.toArray] w (RaOut m pkg major env t w) := by
 have HMo := hZ hMo
 have HE := hZ hE
 have HT := hZ hT
 have HMD := hZ hM
 have H9 := hZ h9
 obtain ⟨Ai, ci, Ad, cd, rfl, -, -, zdl, -, hDe⟩ := hMo
 obtain ⟨nd, hnd⟩ : ∃ nd, nd = m.decs.length := ⟨_, rfl⟩
 have HND := hZ hnd
 obtain ⟨Bn, cB, Bs, dB, rfl, -⟩ := hT.parts
 obtain ⟨W2, hW2, B2, O0, O1, hl2⟩ := two_boxes w #[.string m.name, .slice Ai m.imps.length ci, .slice Ad nd cd] #[.int .i64 t.kind, .string t.pkg, .int .i64 t.major, .string t.mod, .string t.name, .slice Bn t.names.length cB, .slice Bs t.subs.length dB] 25 45
 have s2 : W2.heap.size = w.heap.size + 1 + 1 := by rw [hW2]; simp
 obtain ⟨W3, hW3⟩ : ∃ W3, W3 = W2.alloc (.cells #[.int .i64 0, .string ⟨#[]⟩, .int .i64 0, .string ⟨#[]⟩, .string ⟨#[]⟩, .slice none 0 0, .slice none 0 0] 45) := ⟨_, rfl⟩
 have B3 : Below W2.heap.size W2 W3 := by rw [hW3]; exact below_new (Below.refl _ _) _
 have s3 : W3.heap.size = w.heap.size + 1 + 1 + 1 := by rw [hW3]; simp [s2]
 have O2 : W3.heap[w.heap.size + 1 + 1]? = some (.cells #[.int .i64 0, .string ⟨#[]⟩, .int .i64 0, .string ⟨#[]⟩, .string ⟨#[]⟩, .slice none 0 0, .slice none 0 0] 45 (0, 0)) := by rw [hW3, <- s2]; exact heap_alloc_new W2 _
 have HB3 : Hid (Below w.heap.size w W3) := hZ (below_over B2 B3)
 have HX0 : Hid (∀ wx, Below W3.heap.size W3 wx -> wx.heap[w.heap.size]? = some (.cells #[.string m.name, .slice Ai m.imps.length ci, .slice Ad nd cd] 25 (0, 0))) := hZ (fun wx hb => (hb.block _ (by omega)).trans ((B3.block _ (by omega)).trans O0))
 have HX1 : Hid (∀ wx, Below W3.heap.size W3 wx -> wx.heap[w.heap.size + 1]? = some (.cells #[.int .i64 t.kind, .string t.pkg, .int .i64 t.major, .string t.mod, .string t.name, .slice Bn t.names.length cB, .slice Bs t.subs.length dB] 45 (0, 0))) := hZ (fun wx hb => (hb.block _ (by omega)).trans ((B3.block _ (by omega)).trans O1))
 have HR : Hid (∀ wx, Below W3.heap.size W3 wx -> wx.heap[w.heap.size + 1 + 1]? = some (.cells #[.int .i64 0, .string ⟨#[]⟩, .int .i64 0, .string ⟨#[]⟩, .string ⟨#[]⟩, .slice none 0 0, .slice none 0 0] 45 (0, 0))) := hZ (fun wx hb => (hb.block _ (by omega)).trans O2)
 have HMW : Hid (∀ wx, Below W3.heap.size W3 wx -> MoAt wx [.string m.name, .slice Ai m.imps.length ci, .slice Ad nd cd] m) := hZ (fun wx hb => by rw [HND.out]; exact HMo.out.below (below_over HB3.out hb))
 have HEW : Hid (∀ wx, Below W3.heap.size W3 wx -> RowIn ifR wx Ae env) := hZ (fun wx hb => HE.out.below (below_over HB3.out hb))
 have HTW : Hid (∀ wx, Below W3.heap.size W3 wx -> TyAt wx [.int .i64 t.kind, .string t.pkg, .int .i64 t.major, .string t.mod, .string t.name, .slice Bn t.names.length cB, .slice Bs t.subs.length dB] t) := hZ (fun wx hb => HT.out.keep (below_over HB3.out hb))
 have HW : Hid (((w.alloc (.cells #[.string m.name, .slice Ai m.imps.length ci, .slice Ad nd cd] 25)).alloc (.cells #[.int .i64 t.kind, .string t.pkg, .int .i64 t.major, .string t.mod, .string t.name, .slice Bn t.names.length cB, .slice Bs t.subs.length dB] 45)).alloc (.cells #[.int .i64 0, .string ⟨#[]⟩, .int .i64 0, .string ⟨#[]⟩, .string ⟨#[]⟩, .slice none 0 0, .slice none 0 0] 45) = W3) := hZ (by rw [hW3, hW2])
 have HDW : Hid (∀ wx, Below W3.heap.size W3 wx -> RowIn deR wx Ad m.decs) := hZ (fun wx hb => hDe.below (below_over HB3.out hb))
 have HS3 := hZ s3
 rw [<- hnd]
 clear hW2 hW3 B2 B3 O0 O1 O2 s2 s3 hl2 hT hDe hE h9 hM hnd
 go_enter Tryz.func24, Tryz.ntmps24
 go_upto_region 1 with fail
 rw [HW.out]
 clear HW
 have X0 := HX0.out W3 (Below.refl _ _)
 obtain ⟨x0, x1, x2⟩ := cq3 X0
 simp at x0 x1 x2
 clear X0
 have CK := hZ (rcheck_any m _ W3 (HMW.out W3 (Below.refl _ _)) HMD.out)
 go_wp2_with fail
 refine CK.out.mono ?_; rintro e w4 ⟨b, p, rfl, hrk, hb4⟩
 have HRK := hZ hrk
 have HB4 := hZ hb4
 clear x0 x1 x2 hb4 hrk CK
 have CS := hZ (refSmall_any pkg w4 hpk)
 go_wp2_with fail
 refine CS.out.mono ?_; rintro e w5 ⟨rfl, hb5⟩
 have HB5 := hZ (below_over HB4.out hb5)
 clear hb5 CS
 obtain ⟨b3, hb3⟩ : ∃ b, b = smallB pkg.data.toList := ⟨_, rfl⟩
 rw [<- hb3]
 have HQ3 := hZ hb3
 have X1 := HX1.out w5 HB5.out
 obtain ⟨y0, y1, y2, y3, y4, y5, y6⟩ := cq7 X1
 simp at y0 y1 y2 y3 y4 y5 y6
 clear hb3 X1
 have CM := hZ (may_any t _ w5 hT9 ⟨_, rfl, HTW.out w5 HB5.out⟩)
 go_wp2_with fail
 refine CM.out.mono ?_; rintro e w6 ⟨rfl, hb6⟩
 have HB6 := hZ (below_over HB5.out hb6)
 clear y0 y1 y2 y3 y4 y5 y6 hb6 CM
 obtain ⟨b2, hb2⟩ : ∃ b, b = mayT t := ⟨_, rfl⟩
 rw [<- hb2]
 have HQ2 := hZ hb2
 clear hb2
 have HNN : Hid ((MayN m pkg major env /\ mayT t = true) ↔ (b = 0 /\ b2 = true /\ b3 = true /\ 1 <= major /\ major <= 999999999 /\ env.length <= 100)) := hZ (by
  rw [mayN_iff, HQ3.out, HQ2.out, rk_ok HRK.out];constructor
  ·rintro ⟨⟨a, c, d, e, f, g⟩, h⟩; exact ⟨⟨a, c⟩, h, d, e, f, g⟩
  ·rintro ⟨⟨a, c⟩, h, d, e, f, g⟩; exact ⟨⟨a, c, d, e, f, g⟩, h⟩)
 go_upto_region 4 with fail
 go_cut [55] (fun s55 wx => ∃ qq : Bool, s55 = .bool qq /\ (qq = true ↔ ¬ (MayN m pkg major env /\ mayT t = true)) /\ wx = w6)
 case first =>
  by_cases e1 : b = 0
  ·have f1 : (b != 0) = false := by rw [e1]; rfl
   have f1' : (b == 0) = true := by rw [e1]; rfl
   have HE1 := hZ e1;clear e1;cases b2 with
   | false =>
    go_wp2_with fail
    go_meet
    exact ⟨_, rfl, by rw [HNN.out, HE1.out]; simp, rfl⟩
   | true =>
    cases b3 with
    | false =>
     go_wp2_with fail
     go_meet
     exact ⟨_, rfl, by rw [HNN.out, HE1.out]; simp, rfl⟩
    | true =>
     by_cases e4 : major < 1
     ·have f4 : decide (major < 1) = true := decide_eq_true e4
      go_wp2_with fail
      go_meet
      exact ⟨_, rfl, by rw [HNN.out, HE1.out]; simp; omega, rfl⟩
     ·have f4 : decide (major < 1) = false := decide_eq_false e4
      by_cases e5 : 999999999 < major
      ·have f5 : decide (999999999 < major) = true := decide_eq_true e5
       go_wp2_with fail
       go_meet
       exact ⟨_, rfl, by rw [HNN.out, HE1.out]; simp; omega, rfl⟩
      ·have f5 : decide (999999999 < major) = false := decide_eq_false e5
       by_cases e6 : (100 : Int) < env.length
       ·have f6 : decide ((100 : Int) < env.length) = true := decide_eq_true e6
        go_wp2_with fail
        go_meet
        exact ⟨_, rfl, by rw [HNN.out, HE1.out]; simp; omega, rfl⟩
       ·have f6 : decide ((100 : Int) < env.length) = false := decide_eq_false e6
        go_wp2_with fail
        go_meet
        exact ⟨_, rfl, by rw [HNN.out, HE1.out]; simp; omega, rfl⟩
  ·have f1 : (b != 0) = true := by simpa using e1
   have f1' : (b == 0) = false := by simpa using e1
   go_wp2_with fail
   go_meet
   exact ⟨_, rfl, by rw [HNN.out]; simp [e1], rfl⟩
 case rest =>
  obtain ⟨qq, rfl, hqq, rfl⟩ := hcut;have HQQ := hZ hqq;clear hqq HNN;cases qq with
  | true =>
   have X7 := HR.out wc HB6.out;have HX7 := hZ X7;have FIN := hZ (ra_zero (m := m) (pkg := pkg) (major := major) (env := env) (t := t) (c := 1) (below_over HB3.out HB6.out) (.inl ⟨rfl, rfl, HQQ.out.1 rfl⟩));go_upto_region 5 with fail
   go_wp2_with (first | ((with_reducible refine wpList_putRow 45 (w.heap.size + 1 + 1) #[.int .i64 0, .string ⟨#[]⟩, .int .i64 0, .string ⟨#[]⟩, .string ⟨#[]⟩, .slice none 0 0, .slice none 0 0] _ _ X7 ?_ ?_ ?_ ?_ ?_ ?_); exact tySize; rfl; exact tyOne; (focus (first | (go_simp; done) | rfl)); (focus (first | (go_simp; done) | rfl))))
   exact ret_agg (fn := Tryz.f24) (vs := [.int .i64 0, .string ⟨#[]⟩, .int .i64 0, .string ⟨#[]⟩, .string ⟨#[]⟩, .slice none 0 0, .slice none 0 0]) (b := w.heap.size + 1 + 1) rfl rfl rfl Tryz.underlying45 (by kernel_rfl) (cell7 (setRow_heap _ (w.heap.size + 1 + 1) _ _ _ _ HX7.out)) rfl FIN.out
  | false =>
   have HOK : Hid (MayN m pkg major env /\ mayT t = true) := hZ (by
    have h := HQQ.out;by_cases c : MayN m pkg major env /\ mayT t = true
    ·exact c
    ·have := h.2 c; cases this)
   obtain ⟨w6, rfl⟩ : ∃ w6 : World, w6 = wc := ⟨_, rfl⟩;have HPT := hZ (mayN_parts HOK.out.1);clear HQQ HQ2 HQ3 HRK;have hmay := HPT.out.1;have hI6 : m.imps.length <= 1000000 := by have := (mayM_parts hmay).1; omega
   have hD6 : m.decs.length <= 1000000 := by have := (mayM_parts hmay).2.1; omega
   have hnd60 : nd <= 60 := by have := (mayM_parts hmay).2.1; have := HND.out; omega
   have X1 := HX1.out w6 HB6.out;obtain ⟨y0, y1, y2, y3, y4, y5, y6⟩ := cq7 X1;simp at y0 y1 y2 y3 y4 y5 y6;have CL := hZ (rlocals_any (many t) t (Nat.le_refl _) hT9 _ w6 ⟨_, rfl, HTW.out w6 HB6.out⟩);clear X1;go_wp2_with fail
   refine CL.out.mono ?_; rintro e w7 ⟨v7, rfl, hOL, hb7⟩
   obtain ⟨L, hL⟩ : ∃ L, L = locT t := ⟨_, rfl⟩;rw [<- hL] at hOL;have HL := hZ hL;have hl9 : L.length <= 9000 := by rw [hL]; exact Nat.le_trans (locT_len t) hT9
   obtain ⟨Al, cl, rfl⟩ : ∃ Al cl, v7 = .slice Al L.length cl := by
    obtain ⟨C, -, -, hown, -⟩ := hOL;exact own_slice hown
   have HOL := hZ hOL;have HB7 := hZ (below_over HB6.out hb7);have hs67 := hb7.size;clear y0 y1 y2 y3 y4 y5 y6 hb7 CL hOL hL;obtain ⟨n, hn⟩ : ∃ n, n = L.length := ⟨_, rfl⟩;rw [<- hn];have HN := hZ hn;have hn9 : n <= 9000 := by rw [hn]; exact hl9
   clear hn;go_wp2_with fail
   go_loopw [17] (fun s17 wr => ∃ k : Nat, k <= n /\ s17 = .int .i64 k /\ Hid (∀ x ∈ L.take k, knoN m x = true) /\ Hid (Below w7.heap.size w7 wr)) (fun s17 _ => n - (intOf s17).toNat)
   case atStart => exact ⟨0, by omega, rfl, hZ (by simp), hZ (Below.refl _ _)⟩
   case round =>
    obtain ⟨k, hk, rfl, HNO, HBo⟩ := hrel;obtain ⟨wo, rfl⟩ : ∃ wo : World, wo = wr := ⟨_, rfl⟩;have HB8 : Hid (Below W3.heap.size W3 wo) := hZ (below_over HB7.out HBo.out);by_cases hlt : k < n
    ·obtain ⟨x, hx⟩ : ∃ x, L[k]? = some x := ⟨_, List.getElem?_eq_getElem (by rw [<- HN.out]; exact hlt)⟩
     obtain ⟨gx, Cn, cC, Cs, dC, rfl, -, hgx, hc⟩ := HOL.out.get hx;have X0 := HX0.out wo HB8.out
     have KEEP : Hid (∀ wx : World, Below wo.heap.size wo wx -> (wx.cell? ⟨w.heap.size, 0, none⟩ = some (.string m.name) /\ wx.cell? ⟨w.heap.size, 1, none⟩ = some (.slice Ai m.imps.length ci) /\ wx.cell? ⟨w.heap.size, 2, none⟩ = some (.slice Ad nd cd)) /\ wx.cell? ⟨gx, k * 7, none⟩ = some (.int .i64 x.kind) /\ wx.cell? ⟨gx, k * 7 + 1, none⟩ = some (.string x.pkg) /\ wx.cell? ⟨gx, k * 7 + 2, none⟩ = some (.int .i64 x.major) /\ wx.cell? ⟨gx, k * 7 + 3, none⟩ = some (.string x.mod) /\ wx.cell? ⟨gx, k * 7 + 4, none⟩ = some (.string x.name) /\ wx.cell? ⟨gx, k * 7 + 5, none⟩ = some (.slice Cn x.names.length cC) /\ wx.cell? ⟨gx, k * 7 + 6, none⟩ = some (.slice Cs x.subs.length dC)) := hZ (fun wx hb => by
      have Z0 := HX0.out wx (below_over HB8.out hb);have cc := fun (j : Nat) (v : Value) (hv : ([.int .i64 x.kind, .string x.pkg, .int .i64 x.major, .string x.mod, .string x.name, .slice Cn x.names.length cC, .slice Cs x.subs.length dC] : List Value)[j]? = some v) => ((below_over HBo.out hb).cell (p := ⟨gx, k * 7 + j, none⟩) hgx).trans (hc j v hv)
      exact ⟨⟨cZ Z0 0, cZ Z0 1, cZ Z0 2⟩, cc 0 _ rfl, cc 1 _ rfl, cc 2 _ rfl, cc 3 _ rfl, cc 4 _ rfl, cc 5 _ rfl, cc 6 _ rfl⟩)
     have CT := hZ (fun wx (hb : Below wo.heap.size wo wx) => rknown_cells m _ x [.int .i64 x.kind, .string x.pkg, .int .i64 x.major, .string x.mod, .string x.name, .slice Cn x.names.length cC, .slice Cs x.subs.length dC] wx (HMW.out wx (below_over HB8.out hb)) ⟨Cn, cC, Cs, dC, rfl⟩ hI6 hD6);obtain ⟨q, hq⟩ : ∃ q, q = knoN m x := ⟨_, rfl⟩;rw [<- hq] at CT;have HQ := hZ hq;have HX := hZ hx;have hk0 : (0 : Int) <= k := by omega
     have hk1 : (k : Int) < n := by omega
     clear hq hx hc X0;go_upto_region 10 with fail
     go_cut [18] (fun s18 wx => s18 = .bool q /\ Below wo.heap.size wo wx)
     case first =>
      have hH0 := KEEP.out wo.drew (Below.drew (Below.refl _ _));refine AnyX.start (fun wx => (wx.cell? ⟨w.heap.size, 0, none⟩ = some (.string m.name) /\ wx.cell? ⟨w.heap.size, 1, none⟩ = some (.slice Ai m.imps.length ci) /\ wx.cell? ⟨w.heap.size, 2, none⟩ = some (.slice Ad nd cd)) /\ wx.cell? ⟨gx, k * 7, none⟩ = some (.int .i64 x.kind) /\ wx.cell? ⟨gx, k * 7 + 1, none⟩ = some (.string x.pkg) /\ wx.cell? ⟨gx, k * 7 + 2, none⟩ = some (.int .i64 x.major) /\ wx.cell? ⟨gx, k * 7 + 3, none⟩ = some (.string x.mod) /\ wx.cell? ⟨gx, k * 7 + 4, none⟩ = some (.string x.name) /\ wx.cell? ⟨gx, k * 7 + 5, none⟩ = some (.slice Cn x.names.length cC) /\ wx.cell? ⟨gx, k * 7 + 6, none⟩ = some (.slice Cs x.subs.length dC)) (fun _ => false) (by kernel_rfl) ?_;refine AnyX.tk (i := 0) (v := ?_) rfl (fun _ _ _ h => h) hH0 (Or.inl ⟨by rfl, ?_⟩) ?_;rotate_left
      ·(intro wS hS; (try obtain ⟨⟨m0, m1, m2⟩, c0, c1, c2, c3, c4, c5, c6⟩ := hS); go_simp; try with_reducible rfl)
      simp only [getElem_toArray, getElem_cons_succ, getElem_cons_zero];simp only [Act.put, setIfInBounds_toArray];simp only [set_cons_zero, set_cons_succ];refine AnyX.mv (i := 1) (v := ?_) rfl (fun _ _ _ h => h) (Or.inl ⟨by rfl, ?_⟩) ?_;rotate_left
      ·(intro wS _; go_simp; try with_reducible rfl)
      simp only [getElem_toArray, getElem_cons_succ, getElem_cons_zero];simp only [Act.put, setIfInBounds_toArray];simp only [set_cons_zero, set_cons_succ];refine AnyX.mv (i := 2) (v := ?_) rfl (fun _ _ _ h => h) (Or.inl ⟨by rfl, ?_⟩) ?_;rotate_left
      ·(intro wS _; go_simp; try with_reducible rfl)
      simp only [getElem_toArray, getElem_cons_succ, getElem_cons_zero];simp only [Act.put, setIfInBounds_toArray];simp only [set_cons_zero, set_cons_succ];refine AnyX.mv (i := 3) (v := ?_) rfl (fun _ _ _ h => h) (Or.inl ⟨by rfl, ?_⟩) ?_;rotate_left
      ·(intro wS _; go_simp; try with_reducible rfl)
      simp only [getElem_toArray, getElem_cons_succ, getElem_cons_zero];simp only [Act.put, setIfInBounds_toArray];simp only [set_cons_zero, set_cons_succ];refine AnyX.tk (i := 4) (v := ?_) rfl (fun _ _ _ h => h) hH0 (Or.inl ⟨by rfl, ?_⟩) ?_;rotate_left
      ·(intro wS hS; (try obtain ⟨⟨m0, m1, m2⟩, c0, c1, c2, c3, c4, c5, c6⟩ := hS); go_simp; try with_reducible rfl)
      simp only [getElem_toArray, getElem_cons_succ, getElem_cons_zero];simp only [Act.put, setIfInBounds_toArray];simp only [set_cons_zero, set_cons_succ];refine AnyX.go 5 (by kernel_rfl) rfl rfl (fun K hK => ?_);simp only [getElem_toArray, getElem_cons_succ, getElem_cons_zero];go_simp
      refine (CT.out wo.drew (Below.drew (Below.refl _ _))).mono ?_;rintro e w9 ⟨rfl, hb9⟩;have hB9 : Below wo.heap.size wo w9 := Below.trans (Below.drew (Below.refl wo.heap.size wo)) hb9;simp only [];refine hK.out _ _ (fun hoff _ => KEEP.out w9 (Below.trans (Below.drew (Below.refl wo.heap.size wo)) hb9)) ?_;clear hK;(try simp only [Act.put, setIfInBounds_toArray]);(try simp only [set_cons_zero, set_cons_succ]);refine AnyX.mv (i := 6) (v := ?_) rfl (fun _ _ _ h => h) (Or.inl ⟨by rfl, ?_⟩) ?_;rotate_left
      ·(intro wS _; go_simp; try with_reducible rfl)
      simp only [getElem_toArray, getElem_cons_succ, getElem_cons_zero];simp only [Act.put, setIfInBounds_toArray];simp only [set_cons_zero, set_cons_succ];refine AnyX.done (by kernel_rfl) ?_ _;go_wp2_with fail
      go_meet
      exact ⟨rfl, hB9⟩
     case rest =>
      obtain ⟨rfl, hbc⟩ := hcut;obtain ⟨wy, rfl⟩ : ∃ wy : World, wy = wc := ⟨_, rfl⟩;have HBy : Hid (Below w7.heap.size w7 wy) := hZ (below_over HBo.out hbc);have HBz : Hid (Below W3.heap.size W3 wy) := hZ (below_over HB8.out hbc);clear hbc KEEP CT;cases q with
      | true =>
       have NX : Hid (∀ y ∈ L.take (k + 1), knoN m y = true) := hZ (fun y hy => by
        rw [List.take_add_one, HX.out] at hy;rcases List.mem_append.1 hy with h | h
        ·exact HNO.out y h
        ·simp at h; rw [h]; exact HQ.out.symm)
       go_wp2_with fail
       go_roundw
       case rel => exact ⟨k + 1, by omega, by go_num, NX, HBy⟩
       case measure => simp [intOf]; omega
      | false =>
       have X7 := HR.out wy HBz.out;have HX7 := hZ X7
       have FIN := hZ (ra_zero (m := m) (pkg := pkg) (major := major) (env := env) (t := t) (c := 4) (below_over HB3.out HBz.out) (.inr ⟨HOK.out.1, HOK.out.2, .inl ⟨rfl, rfl, by
               rw [<- HL.out];rw [List.all_eq_false];exact ⟨x, List.mem_of_getElem? HX.out, by rw [<- HQ.out]; decide⟩⟩⟩))
       go_upto_region 12 with fail
       go_wp2_with (first | ((with_reducible refine wpList_putRow 45 (w.heap.size + 1 + 1) #[.int .i64 0, .string ⟨#[]⟩, .int .i64 0, .string ⟨#[]⟩, .string ⟨#[]⟩, .slice none 0 0, .slice none 0 0] _ _ X7 ?_ ?_ ?_ ?_ ?_ ?_); exact tySize; rfl; exact tyOne; (focus (first | (go_simp; done) | rfl)); (focus (first | (go_simp; done) | rfl))))
       exact ret_agg (fn := Tryz.f24) (vs := [.int .i64 0, .string ⟨#[]⟩, .int .i64 0, .string ⟨#[]⟩, .string ⟨#[]⟩, .slice none 0 0, .slice none 0 0]) (b := w.heap.size + 1 + 1) rfl rfl rfl Tryz.underlying45 (by kernel_rfl) (cell7 (setRow_heap _ (w.heap.size + 1 + 1) _ _ _ _ HX7.out)) rfl FIN.out
    ·have HKN : Hid ((locT t).all (knoN m) = true) := hZ (by
      rw [<- HL.out, List.all_eq_true];intro x hx;exact HNO.out x (by rw [List.take_of_length_le (by rw [<- HN.out]; omega)]; exact hx))
     have HB9 := HB8;have hs79 := HBo.out.size;have HOL9 : Hid (OwnL wo w6.heap.size (.slice Al L.length cl) L) := hZ (HOL.out.keep fun b _ hlt => HBo.out.block b hlt);obtain ⟨wk, rfl⟩ : ∃ wk : World, wk = wo := ⟨_, rfl⟩;have X0 := HX0.out wk HB9.out;have X1 := HX1.out wk HB9.out;obtain ⟨x0, x1, x2⟩ := cq3 X0;obtain ⟨y0, y1, y2, y3, y4, y5, y6⟩ := cq7 X1;simp at x0 x1 x2 y0 y1 y2 y3 y4 y5 y6;have CR := hZ (rreach_any m _ t _ wk (HMW.out wk HB9.out) ⟨_, rfl, HTW.out wk HB9.out⟩ HPT.out.1 (loc_may m HOK.out.2).1 HMD.out hT9);rw [<- HND.out] at CR;clear HNO HBo HB8 HOL HB7 X0 X1;go_wp2_with fail
     refine CR.out.mono ?_; rintro e wa ⟨fb, rfl, hfb, hfnd, hba⟩
     have HBa := hZ (below_over HB9.out hba);have HOLa : Hid (OwnL wa w6.heap.size (.slice Al L.length cl) L) := hZ (HOL9.out.keep fun b _ hlt => hba.block b hlt);have HFD := hZ hfnd;have hfl := hfnd.lt;clear x0 x1 x2 y0 y1 y2 y3 y4 y5 y6 CR hba hfnd HOL9;have X0 := HX0.out wa HBa.out;obtain ⟨x0, x1, x2⟩ := cq3 X0;simp at x0 x1 x2;have CC := hZ (lacks_any m _ Ae ce env L Al cl w6.heap.size wa (HMW.out wa HBa.out) (HEW.out wa HBa.out) hel H9.out HOLa.out (by omega));rw [<- HN.out] at CC;clear X0;go_wp2_with fail
     refine CC.out.mono ?_; rintro e wb ⟨rfl, hbb⟩
     have HBb := hZ (below_over HBa.out hbb);have HFb : Hid (FoundAt wb fb nd (reachB (entries m) (saidT m t))) := hZ ((hbb.block _ hfl).trans HFD.out);have hfl := HFb.out.lt;obtain ⟨q0, hq0⟩ : ∃ q0, q0 = lacksN m env L := ⟨_, rfl⟩;rw [<- hq0];have HQ0 : Hid (q0 = (allK m t 0).any fun s => lacksN m env (locT s)) := hZ (by rw [hq0, allK_zero, <- HL.out.symm]; simp [HL.out]);clear x0 x1 x2 CC hbb HFD HOLa hq0;go_wp2_with fail
     go_loopw [20, 21] (fun s20 s21 wr => ∃ (k : Nat) (q : Bool), k <= nd /\ s20 = .bool q /\ s21 = .int .i64 k /\ Hid (q = (allK m t k).any fun s => lacksN m env (locT s)) /\ Hid (Below wb.heap.size wb wr)) (fun s20 s21 _ => nd - (intOf s21).toNat)
     case atStart => exact ⟨0, q0, by omega, rfl, rfl, HQ0, hZ (Below.refl _ _)⟩
     case round =>
      obtain ⟨k, q, hk, rfl, rfl, HQ, HBo⟩ := hrel;obtain ⟨wo, rfl⟩ : ∃ wo : World, wo = wr := ⟨_, rfl⟩;have HB8 : Hid (Below W3.heap.size W3 wo) := hZ (below_over HBb.out HBo.out);by_cases hlt : k < nd /\ q = false
      ·obtain ⟨hlt, rfl⟩ := hlt
       obtain ⟨d, hd⟩ : ∃ d, m.decs[k]? = some d := ⟨_, List.getElem?_eq_getElem (by rw [<- HND.out]; exact hlt)⟩;obtain ⟨gd, od, v0, v1, v2, v3, v4, v5, v6, rfl, hgd, a0, a1, t0, t1, t2, t3, t4, t5, t6, us, zs⟩ := RowIn.de (HDW.out wo HB8.out) hd;obtain ⟨Dn, cD, Ds, dD, rfl, rfl, rfl, rfl, rfl, rfl, rfl⟩ := us.seven;have HF8 : FoundAt wo fb nd _ := (HBo.out.block _ hfl).trans HFb.out;have hfc := HF8.cell hlt;have X0 := HX0.out wo HB8.out;have x2 := cZ X0 2;simp at x2;have hk0 : (0 : Int) <= k := by omega
       have hk1 : (k : Int) < nd := by omega
       have hk2 : ¬ (nd : Int) <= k := by omega
       have HDD := hZ hd;have HUS := hZ us;cases hr : reachB (entries m) (saidT m t) k with
       | false =>
        rw [hr] at hfc;have NX : Hid (false = (allK m t (k + 1)).any fun s => lacksN m env (locT s)) := hZ (by rw [allK_no HDD.out (.inr hr)]; exact HQ.out);clear hd us zs hr X0;go_wp2_with fail
        go_roundw
        case rel => exact ⟨k + 1, false, by omega, rfl, by go_num, NX, HBo⟩
        case measure => simp [intOf]; omega
       | true =>
        rw [hr] at hfc;by_cases h3 : d.kind = 3
        ·have q3 : (d.kind == 3) = true := by rw [h3]; rfl
         obtain ⟨qn, hqn⟩ : ∃ qn, qn = lacksN m env (locT d.typ) := ⟨_, rfl⟩;have NX : Hid (qn = (allK m t (k + 1)).any fun s => lacksN m env (locT s)) := hZ (by rw [allK_yes HDD.out h3 hr, List.any_append, <- HQ.out, hqn]; simp);have hd9 := HMD.out d (List.mem_of_getElem? hd);have hgw : gd < wo.heap.size := hgd
         have KEEP : Hid (∀ wx : World, Below wo.heap.size wo wx -> (wx.cell? ⟨w.heap.size, 0, none⟩ = some (.string m.name) /\ wx.cell? ⟨w.heap.size, 1, none⟩ = some (.slice Ai m.imps.length ci) /\ wx.cell? ⟨w.heap.size, 2, none⟩ = some (.slice (some ⟨gd, od, none⟩) nd cd)) /\ wx.cell? ⟨gd, od + k * 9 + 2, none⟩ = some (.int .i64 d.typ.kind) /\ wx.cell? ⟨gd, od + k * 9 + 2 + 1, none⟩ = some (.string d.typ.pkg) /\ wx.cell? ⟨gd, od + k * 9 + 2 + 2, none⟩ = some (.int .i64 d.typ.major) /\ wx.cell? ⟨gd, od + k * 9 + 2 + 3, none⟩ = some (.string d.typ.mod) /\ wx.cell? ⟨gd, od + k * 9 + 2 + 4, none⟩ = some (.string d.typ.name) /\ wx.cell? ⟨gd, od + k * 9 + 2 + 5, none⟩ = some (.slice Dn d.typ.names.length cD) /\ wx.cell? ⟨gd, od + k * 9 + 2 + 6, none⟩ = some (.slice Ds d.typ.subs.length dD)) := hZ (fun wx hb => by
          have Z0 := HX0.out wx (below_over HB8.out hb);have cc := fun (o : Nat) (v : Value) (hv : wo.cell? ⟨gd, o, none⟩ = some v) => (hb.cell (p := ⟨gd, o, none⟩) hgw).trans hv
          exact ⟨⟨cZ Z0 0, cZ Z0 1, cZ Z0 2⟩, cc _ _ t0, cc _ _ t1, cc _ _ t2, cc _ _ t3, cc _ _ t4, cc _ _ t5, cc _ _ t6⟩)
         have CL := hZ (rlocals_any (many d.typ) d.typ (Nat.le_refl _) hd9 (.agg #[.int .i64 d.typ.kind, .string d.typ.pkg, .int .i64 d.typ.major, .string d.typ.mod, .string d.typ.name, .slice Dn d.typ.names.length cD, .slice Ds d.typ.subs.length dD]) wo.drew ⟨_, rfl, HUS.out.keep (Below.drew (Below.refl _ _))⟩);have hl9d : (locT d.typ).length <= 1000000 := by have := locT_len d.typ; omega
         have HQN := hZ hqn;clear hd us zs hr X0 h3 hqn;go_upto_region 19 with fail
         clear x2 a0 a1 t0 t1 t2 t3 t4 t5 t6 hfc;have hH0 := KEEP.out wo.drew (Below.drew (Below.refl _ _));refine AnyX.start (fun wx => (wx.cell? ⟨w.heap.size, 0, none⟩ = some (.string m.name) /\ wx.cell? ⟨w.heap.size, 1, none⟩ = some (.slice Ai m.imps.length ci) /\ wx.cell? ⟨w.heap.size, 2, none⟩ = some (.slice (some ⟨gd, od, none⟩) nd cd)) /\ wx.cell? ⟨gd, od + k * 9 + 2, none⟩ = some (.int .i64 d.typ.kind) /\ wx.cell? ⟨gd, od + k * 9 + 2 + 1, none⟩ = some (.string d.typ.pkg) /\ wx.cell? ⟨gd, od + k * 9 + 2 + 2, none⟩ = some (.int .i64 d.typ.major) /\ wx.cell? ⟨gd, od + k * 9 + 2 + 3, none⟩ = some (.string d.typ.mod) /\ wx.cell? ⟨gd, od + k * 9 + 2 + 4, none⟩ = some (.string d.typ.name) /\ wx.cell? ⟨gd, od + k * 9 + 2 + 5, none⟩ = some (.slice Dn d.typ.names.length cD) /\ wx.cell? ⟨gd, od + k * 9 + 2 + 6, none⟩ = some (.slice Ds d.typ.subs.length dD)) (fun _ => false) (by kernel_rfl) ?_;refine AnyX.tk (i := 0) (v := ?_) rfl (fun _ _ _ h => h) hH0 (Or.inl ⟨by rfl, ?_⟩) ?_;rotate_left
         ·(intro wS hS; (try obtain ⟨⟨m0, m1, m2⟩, c0, c1, c2, c3, c4, c5, c6⟩ := hS); go_simp; try with_reducible rfl)
         simp only [getElem_toArray, getElem_cons_succ, getElem_cons_zero];simp only [Act.put, setIfInBounds_toArray];simp only [set_cons_zero, set_cons_succ];refine AnyX.mv (i := 1) (v := ?_) rfl (fun _ _ _ h => h) (Or.inl ⟨by rfl, ?_⟩) ?_;rotate_left
         ·(intro wS _; go_simp; try with_reducible rfl)
         simp only [getElem_toArray, getElem_cons_succ, getElem_cons_zero];simp only [Act.put, setIfInBounds_toArray];simp only [set_cons_zero, set_cons_succ];refine AnyX.mv (i := 2) (v := ?_) rfl (fun _ _ _ h => h) (Or.inl ⟨by rfl, ?_⟩) ?_;rotate_left
         ·(intro wS _; go_simp; try with_reducible rfl)
         simp only [getElem_toArray, getElem_cons_succ, getElem_cons_zero];simp only [Act.put, setIfInBounds_toArray];simp only [set_cons_zero, set_cons_succ];refine AnyX.tk (i := 3) (v := ?_) rfl (fun _ _ _ h => h) hH0 (Or.inl ⟨by rfl, ?_⟩) ?_;rotate_left
         ·(intro wS hS; (try obtain ⟨⟨m0, m1, m2⟩, c0, c1, c2, c3, c4, c5, c6⟩ := hS); go_simp; try with_reducible rfl)
         simp only [getElem_toArray, getElem_cons_succ, getElem_cons_zero];simp only [Act.put, setIfInBounds_toArray];simp only [set_cons_zero, set_cons_succ];refine AnyX.mv (i := 4) (v := ?_) rfl (fun _ _ _ h => h) (Or.inl ⟨by rfl, ?_⟩) ?_;rotate_left
         ·(intro wS _; go_simp; try with_reducible rfl)
         simp only [getElem_toArray, getElem_cons_succ, getElem_cons_zero];simp only [Act.put, setIfInBounds_toArray];simp only [set_cons_zero, set_cons_succ];refine AnyX.mv (i := 5) (v := ?_) rfl (fun _ _ _ h => h) (Or.inl ⟨by rfl, ?_⟩) ?_;rotate_left
         ·(intro wS _; go_simp; try with_reducible rfl)
         simp only [getElem_toArray, getElem_cons_succ, getElem_cons_zero];simp only [Act.put, setIfInBounds_toArray];simp only [set_cons_zero, set_cons_succ];refine AnyX.mv (i := 6) (v := ?_) rfl (fun _ _ _ h => h) (Or.inl ⟨by rfl, ?_⟩) ?_;rotate_left
         ·(intro wS _; go_simp; try with_reducible rfl)
         simp only [getElem_toArray, getElem_cons_succ, getElem_cons_zero];simp only [Act.put, setIfInBounds_toArray];simp only [set_cons_zero, set_cons_succ];refine AnyX.tk (i := 7) (v := ?_) rfl (fun _ _ _ h => h) hH0 (Or.inl ⟨by rfl, ?_⟩) ?_;rotate_left
         ·(intro wS hS; (try obtain ⟨⟨m0, m1, m2⟩, c0, c1, c2, c3, c4, c5, c6⟩ := hS); go_simp; try with_reducible rfl)
         simp only [getElem_toArray, getElem_cons_succ, getElem_cons_zero];simp only [Act.put, setIfInBounds_toArray];simp only [set_cons_zero, set_cons_succ];refine AnyX.go 8 (by kernel_rfl) rfl rfl (fun K hK => ?_);simp only [getElem_toArray, getElem_cons_succ, getElem_cons_zero];go_simp
         refine CL.out.mono ?_;rintro e w8 ⟨v8, rfl, hO8, hb8⟩;have hB8 : Below wo.heap.size wo w8 := Below.trans (Below.drew (Below.refl wo.heap.size wo)) hb8
         obtain ⟨Am, cm, rfl⟩ : ∃ Am cm, v8 = .slice Am (locT d.typ).length cm := by
          obtain ⟨C, -, -, hown, -⟩ := hO8;exact own_slice hown
         have CC := hZ (lacks_any m _ Ae ce env (locT d.typ) Am cm wo.drew.heap.size w8 (HMW.out w8 (below_over HB8.out hB8)) (HEW.out w8 (below_over HB8.out hB8)) hel H9.out hO8 hl9d);simp only [];refine hK.out _ _ (fun hoff _ => KEEP.out w8 hB8) ?_;clear hK;(try simp only [Act.put, setIfInBounds_toArray]);(try simp only [set_cons_zero, set_cons_succ]);refine AnyX.go 9 (by kernel_rfl) rfl rfl (fun K hK => ?_);simp only [getElem_toArray, getElem_cons_succ, getElem_cons_zero];go_simp
         refine CC.out.mono ?_;rintro e w9 ⟨rfl, hb9⟩;have hB9 : Below wo.heap.size wo w9 := below_over hB8 hb9;simp only [];refine hK.out _ _ (fun hoff _ => KEEP.out w9 hB9) ?_;clear hK;(try simp only [Act.put, setIfInBounds_toArray]);(try simp only [set_cons_zero, set_cons_succ]);refine AnyX.mv (i := 10) (v := ?_) rfl (fun _ _ _ h => h) (Or.inl ⟨by rfl, ?_⟩) ?_;rotate_left
         ·(intro wS _; go_simp; try with_reducible rfl)
         simp only [getElem_toArray, getElem_cons_succ, getElem_cons_zero];simp only [Act.put, setIfInBounds_toArray];simp only [set_cons_zero, set_cons_succ];refine AnyX.done (by kernel_rfl) ?_ _;have HBy : Hid (Below wb.heap.size wb w9) := hZ (below_over HBo.out hB9);rw [<- HQN.out];go_wp2_with fail
         go_roundw
         case rel => exact ⟨k + 1, qn, by omega, rfl, by go_num, NX, HBy⟩
         case measure => simp [intOf]; omega
        ·have q3 : (d.kind == 3) = false := by simpa using h3
         have NX : Hid (false = (allK m t (k + 1)).any fun s => lacksN m env (locT s)) := hZ (by rw [allK_no HDD.out (.inl h3)]; exact HQ.out);clear hd us zs hr X0 h3;go_wp2_with fail
         go_roundw
         case rel => exact ⟨k + 1, false, by omega, rfl, by go_num, NX, HBo⟩
         case measure => simp [intOf]; omega
      ·have HALL : Hid (q = (allK m t m.decs.length).any fun s => lacksN m env (locT s)) := hZ (by
        cases q with
        | true => exact (allK_le _ k (by rw [<- HND.out]; exact hk) HQ.out.symm).symm
        | false =>
         obtain rfl : k = nd := by
          rcases Nat.lt_or_ge k nd with h | h
          ·exact absurd ⟨h, rfl⟩ hlt
          ·omega
         rw [<- HND.out]; exact HQ.out)
       have HBz := HB8;obtain ⟨wk2, rfl⟩ : ∃ wk2 : World, wk2 = wo := ⟨_, rfl⟩;cases q with
       | true =>
        have X7 := HR.out wk2 HBz.out;have HX7 := hZ X7;have FIN := hZ (ra_zero (m := m) (pkg := pkg) (major := major) (env := env) (t := t) (c := 9) (below_over HB3.out HBz.out) (.inr ⟨HOK.out.1, HOK.out.2, .inr ⟨HKN.out, .inl ⟨rfl, rfl, HALL.out.symm⟩⟩⟩));clear hlt;rcases Nat.lt_or_ge k nd with hlt | hge
        ·have hk1 : (k : Int) < nd := by omega
         go_upto_region 21 with fail
         go_wp2_with (first | ((with_reducible refine wpList_putRow 45 (w.heap.size + 1 + 1) #[.int .i64 0, .string ⟨#[]⟩, .int .i64 0, .string ⟨#[]⟩, .string ⟨#[]⟩, .slice none 0 0, .slice none 0 0] _ _ X7 ?_ ?_ ?_ ?_ ?_ ?_); exact tySize; rfl; exact tyOne; (focus (first | (go_simp; done) | rfl)); (focus (first | (go_simp; done) | rfl))))
         exact ret_agg (fn := Tryz.f24) (vs := [.int .i64 0, .string ⟨#[]⟩, .int .i64 0, .string ⟨#[]⟩, .string ⟨#[]⟩, .slice none 0 0, .slice none 0 0]) (b := w.heap.size + 1 + 1) rfl rfl rfl Tryz.underlying45 (by kernel_rfl) (cell7 (setRow_heap _ (w.heap.size + 1 + 1) _ _ _ _ HX7.out)) rfl FIN.out
        ·have hk1 : ¬ (k : Int) < nd := by omega
         go_upto_region 21 with fail
         go_wp2_with (first | ((with_reducible refine wpList_putRow 45 (w.heap.size + 1 + 1) #[.int .i64 0, .string ⟨#[]⟩, .int .i64 0, .string ⟨#[]⟩, .string ⟨#[]⟩, .slice none 0 0, .slice none 0 0] _ _ X7 ?_ ?_ ?_ ?_ ?_ ?_); exact tySize; rfl; exact tyOne; (focus (first | (go_simp; done) | rfl)); (focus (first | (go_simp; done) | rfl))))
         exact ret_agg (fn := Tryz.f24) (vs := [.int .i64 0, .string ⟨#[]⟩, .int .i64 0, .string ⟨#[]⟩, .string ⟨#[]⟩, .slice none 0 0, .slice none 0 0]) (b := w.heap.size + 1 + 1) rfl rfl rfl Tryz.underlying45 (by kernel_rfl) (cell7 (setRow_heap _ (w.heap.size + 1 + 1) _ _ _ _ HX7.out)) rfl FIN.out
       | false =>
        have hk1 : ¬ (k : Int) < nd := fun h => hlt ⟨by omega, rfl⟩
        have HNL : Hid (((allK m t m.decs.length).any fun s => lacksN m env (locT s)) = false) := hZ HALL.out.symm;obtain ⟨pm, pok, pp, p1, p2, -⟩ := HPT.out;have hgood := good_all HOK.out.2 HKN.out HNL.out;obtain ⟨hh, x, hx⟩ := exp_some (pkg := pkg) (major := major) pm pok _ _ t (Nat.le_refl _) (Nat.le_refl _) hgood;have X0 := HX0.out wk2 HBz.out;have X1 := HX1.out wk2 HBz.out;obtain ⟨x0, x1, x2⟩ := cq3 X0;obtain ⟨y0, y1, y2, y3, y4, y5, y6⟩ := cq7 X1;simp at x0 x1 x2 y0 y1 y2 y3 y4 y5 y6;have CX := hZ (rx_any wk2 m _ pkg major Ae ce env (HMW.out wk2 HBz.out) hD6 (HEW.out wk2 HBz.out) hel H9.out pm pp p1 p2 hh t x (may_ok HOK.out.2) hx 500 32 _ wk2 (by omega) (by omega) (by omega) (by omega) (Below.refl _ _) (HTW.out wk2 HBz.out));have HXX := hZ hx;clear X0 X1 hlt hx hgood pm pok pp p1 p2 HQ HALL;go_upto_region 22 with fail
        go_wp2_with fail
        refine CX.out.mono ?_;rintro e w8 ⟨l8, n8, rfl, hT8⟩;obtain ⟨hb8, ⟨vs, Fn, cF, Fs, dF, rfl⟩, h8⟩ := hT8;have HB88 := hZ (below_over HBz.out hb8);have X8 : (w8.alloc (.cells #[.int .i64 0, .string ⟨#[]⟩, .int .i64 0, .string ⟨#[]⟩, .string ⟨#[]⟩, .slice none 0 0, .slice none 0 0] 45)).heap[w8.heap.size]? = some (.cells #[.int .i64 0, .string ⟨#[]⟩, .int .i64 0, .string ⟨#[]⟩, .string ⟨#[]⟩, .slice none 0 0, .slice none 0 0] 45 (0, 0)) := heap_alloc_new w8 _;obtain ⟨W9, hW9⟩ : ∃ W9, W9 = (w8.alloc (.cells #[.int .i64 0, .string ⟨#[]⟩, .int .i64 0, .string ⟨#[]⟩, .string ⟨#[]⟩, .slice none 0 0, .slice none 0 0] 45)).setRow w8.heap.size #[.int .i64 vs.kind, .string vs.pkg, .int .i64 vs.major, .string vs.mod, .string vs.name, .slice Fn vs.names.length cF, .slice Fs vs.subs.length dF] := ⟨_, rfl⟩;have B9 : Below w8.heap.size w8 W9 := by rw [hW9]; exact setRow_below (below_new (Below.refl _ _) _) (Nat.le_refl _) _
        have O9 : W9.heap[w8.heap.size]? = some (.cells #[.int .i64 vs.kind, .string vs.pkg, .int .i64 vs.major, .string vs.mod, .string vs.name, .slice Fn vs.names.length cF, .slice Fs vs.subs.length dF] 45 (0, 0)) := by rw [hW9]; exact setRow_heap _ _ _ _ _ _ X8
        have HB9z := hZ (below_over HB88.out B9);have HW9 := hZ hW9;have HO9 := hZ O9;have HH8 := hZ h8;have HBB9 := hZ B9;clear hW9 B9 O9 h8 hb8 x0 x1 x2 y0 y1 y2 y3 y4 y5 y6 CX;go_upto_region 23 with (first | (((with_reducible refine wpList_putRow 45 (w8.heap.size) #[.int .i64 vs.kind, .string vs.pkg, .int .i64 vs.major, .string vs.mod, .string vs.name, .slice Fn vs.names.length cF, .slice Fs vs.subs.length dF] _ _ X8 ?_ ?_ ?_ ?_ ?_ ?_); exact tySize; rfl; exact tyOne; (focus (first | (go_simp; done) | rfl)); (focus (first | (go_simp; done) | rfl)))))
        rw [<- HW9.out];clear X8 HW9;have X7 := HR.out W9 HB9z.out;have HX7 := hZ X7;rcases HH8.out with ⟨f1, f2, rfl, hTx⟩ | ⟨f1, rfl, -⟩
        ·have hpx := many_pos x
         have FIN : Hid (RaOut m pkg major env t w (.returned (.tuple #[.agg #[.int .i64 vs.kind, .string vs.pkg, .int .i64 vs.major, .string vs.mod, .string vs.name, .slice Fn vs.names.length cF, .slice Fs vs.subs.length dF], .int .i64 0])) (W9.setRow (w.heap.size + 1 + 1) #[.int .i64 vs.kind, .string vs.pkg, .int .i64 vs.major, .string vs.mod, .string vs.name, .slice Fn vs.names.length cF, .slice Fs vs.subs.length dF])) := hZ
          ⟨0, x, [.int .i64 vs.kind, .string vs.pkg, .int .i64 vs.major, .string vs.mod, .string vs.name, .slice Fn vs.names.length cF, .slice Fs vs.subs.length dF], .inr ⟨HOK.out.1, HOK.out.2, .inr ⟨HKN.out, .inr ⟨HNL.out, hh, x, HXX.out, .inr ⟨rfl, rfl, by omega, by omega⟩⟩⟩⟩, rfl,
           (hTx.move (S' := fun b => b < wk2.heap.size) (by rw [size_setRow]; exact HBB9.out.size) fun b hb hS => ⟨hS, (setRow_other _ _ _ _ (by have := (Array.getElem?_eq_some_iff.1 (HR.out wk2 HBz.out)).1; omega)).trans (HBB9.out.block b hb)⟩).free,
           setRow_below (below_over HB3.out HB9z.out) (by omega) _⟩
         obtain ⟨kx, hkx⟩ : ∃ kx : Int, kx = (many x : Int) := ⟨_, rfl⟩;have qx : (kx == 0) = false := by simp; omega
         rw [<- hkx];have o9 := HO9.out;obtain ⟨r0, r1, r2, r3, r4, r5, r6⟩ := cq7 o9;simp at r0 r1 r2 r3 r4 r5 r6;clear o9 hTx f1 f2 hpx hkx;go_upto_region 25 with fail
         go_wp2_with (first | ((with_reducible refine wpList_putRow 45 (w.heap.size + 1 + 1) #[.int .i64 vs.kind, .string vs.pkg, .int .i64 vs.major, .string vs.mod, .string vs.name, .slice Fn vs.names.length cF, .slice Fs vs.subs.length dF] _ _ X7 ?_ ?_ ?_ ?_ ?_ ?_); exact tySize; rfl; exact tyOne; (focus (first | (go_simp; done) | rfl)); (focus (first | (go_simp; done) | rfl))))
         exact ret_agg (fn := Tryz.f24) (vs := [.int .i64 vs.kind, .string vs.pkg, .int .i64 vs.major, .string vs.mod, .string vs.name, .slice Fn vs.names.length cF, .slice Fs vs.subs.length dF]) (b := w.heap.size + 1 + 1) rfl rfl rfl Tryz.underlying45 (by kernel_rfl) (cell7 (setRow_heap _ (w.heap.size + 1 + 1) _ _ _ _ HX7.out)) rfl FIN.out
        ·have FIN := hZ (ra_zero (m := m) (pkg := pkg) (major := major) (env := env) (t := t) (c := 3) (below_over HB3.out HB9z.out) (.inr ⟨HOK.out.1, HOK.out.2, .inr ⟨HKN.out, .inr ⟨HNL.out, hh, x, HXX.out, .inl ⟨rfl, rfl, by omega⟩⟩⟩⟩))
         clear f1;go_upto_region 24 with fail
         go_wp2_with (first | ((with_reducible refine wpList_putRow 45 (w.heap.size + 1 + 1) #[.int .i64 0, .string ⟨#[]⟩, .int .i64 0, .string ⟨#[]⟩, .string ⟨#[]⟩, .slice none 0 0, .slice none 0 0] _ _ X7 ?_ ?_ ?_ ?_ ?_ ?_); exact tySize; rfl; exact tyOne; (focus (first | (go_simp; done) | rfl)); (focus (first | (go_simp; done) | rfl))))
         exact ret_agg (fn := Tryz.f24) (vs := [.int .i64 0, .string ⟨#[]⟩, .int .i64 0, .string ⟨#[]⟩, .string ⟨#[]⟩, .slice none 0 0, .slice none 0 0]) (b := w.heap.size + 1 + 1) rfl rfl rfl Tryz.underlying45 (by kernel_rfl) (cell7 (setRow_heap _ (w.heap.size + 1 + 1) _ _ _ _ HX7.out)) rfl FIN.out
end Go.Proofs.YtcdmgcgjonndpaaGreatDoor
namespace Go.Proofs.YtcdmgcgjonndpaaGreatDoor
open Go Go.RowKit
open M
theorem zip_at {m : Mo} {us : List Ty} {p : De × Ty} (h : p ∈ m.decs.zip us) : ∃ i : Nat, m.decs[i]? = some p.1 /\ us[i]? = some p.2 := by
  obtain ⟨i, hi⟩ := List.mem_iff_getElem?.1 h;refine ⟨i, ?_⟩;have := List.getElem?_zip_eq_some.1 hi
  exact this
theorem tys_kind {l : List (De × Ty)} {x : Nm} (h : x ∈ tysOf l) : ∃ p ∈ l, x = ⟨p.1.name, p.2⟩ /\ (p.1.kind = 1 \/ p.1.kind = 3) := by
  obtain ⟨p, hp, e⟩ := List.mem_filterMap.1 h;split at e
  · rename_i hk; cases e; exact ⟨p, hp, rfl, hk⟩
  · cases e
theorem vals_kind {l : List (De × Ty)} {x : Nm} (h : x ∈ valsOf l) : ∃ p ∈ l, x = ⟨p.1.name, p.2⟩ /\ p.1.kind = 4 := by
  obtain ⟨p, hp, e⟩ := List.mem_filterMap.1 h;split at e
  · rename_i hk; cases e; exact ⟨p, hp, rfl, hk⟩
  · cases e
theorem mayD_great {d : De} (h : mayD d = true) (hk : d.kind = 1 \/ d.kind = 3) : greatB d.name.data.toList = true := by
  unfold mayD at h
  rcases hk with hk | hk
  · rw [if_pos (.inl hk)] at h; exact ((Bool.and_eq_true _ _).mp h).1
  · rw [if_neg (by rw [hk]; decide), if_pos hk] at h; exact ((Bool.and_eq_true _ _).mp h).1
end Go.Proofs.YtcdmgcgjonndpaaGreatDoor
