/-
  Several texts in one.
-/
import Derived.Test.YtddlmigofilejaaGreatDoorK10
set_option maxRecDepth 100000
set_option maxHeartbeats 4000000
namespace Go.Proofs.YtddlmigofilejaaGreatDoor
open Go.RowKit
open Go.Sort
open M
theorem own_lower {w : World} {lo lo' : Nat} {e : TypeId} {z : Nat} {v : Value} {n : Nat} {xs : List Value} (h : w.ownsRow lo e z v n xs) (hl : lo' <= lo) : w.ownsRow lo' e z v n xs := by
 refine ⟨h.1, ?_⟩
 rcases h.2 with h | ⟨g, cap, cur, hv, hB, rest⟩
 ·exact .inl h
 ·exact .inr ⟨g, cap, cur, hv, Nat.le_trans hl hB, rest⟩
theorem GrR.lower {lo lo' : Nat} {ns : List ByteArray} {n5 : Nat} {ss : List Ty} {n6 : Nat} {v5 v6 : Value} {w : World} (h : GrR lo ns n5 ss n6 v5 v6 w) (hl : lo' <= lo) : GrR lo' ns n5 ss n6 v5 v6 w := by
 obtain ⟨C, h1, h2, h3, h4⟩ := h.subs
 exact ⟨h.len5, h.len6, own_lower h.names hl, h.szs, ⟨C, h1, h2, own_lower h3 hl, fun i l t hx ht => (h4 i l t hx ht).move (Nat.le_refl _) fun b _ hS => ⟨fun e => hS (by
  rcases e with e | e
  ·exact .inl (by omega)
  ·exact .inr e), rfl⟩⟩, h.apart⟩
structure FnJ (w : World) (cu r : Nat) (A : Option Addr) (S : Toks) (cn d f : Nat) (F : Res Ty) (ss : List Ty) (n6 : Nat) (A6 : Option Addr) (c6 i c b g : Nat) (wr : World) : Prop where
 kp : KQ cu r w wr
 box : Bx w.heap.size wr
 rows : GrR (w.heap.size + 1) [] 0 ss n6 (.slice none 0 0) (.slice A6 n6 c6) wr
 rd : RSt cu r A S.n cn i c b wr
 fin : F = badR b i (pEnd S g d i c ss)
 fuel : g <= f
 some : n6 <= 21
 cnt : c <= 500
theorem cfn_any {W : World} {cu r : Nat} {A : Option Addr} {S : Toks} {cn f : Nat} (RD : ∀ g, g < f -> CReadOk W cu r A S cn g) :
  CKOk W cu r A S cn 170 [40] (fun d i c => fnR S f d i c) := by
 intro d d' i c w R hc h hs hc5 hd hd5 hR hne
 have hR' : R = fnR S f d (i + 1) c := hR
 have hr := h.lt
 have hq0 := h.qlt
 have hbig := hc.cur.big
 have hf : 0 < f := by
  rcases Nat.eq_zero_or_pos f with rfl | hf
  ·exfalso
   refine hne 0 ?_;rw [hR'];unfold fnR
   split
   ·unfold pEnd; rfl
   ·unfold pSubs; rfl
  ·exact hf
 obtain ⟨w0, hw0⟩ : ∃ w0, w0 = w.alloc (.cells #[.int .i64 0, .string ⟨#[]⟩, .int .i64 0, .string ⟨#[]⟩, .string ⟨#[]⟩, .slice none 0 0, .slice none 0 0] 48) := ⟨_, rfl⟩
 have B0 : Below w.heap.size w w0 := by rw [hw0]; exact below_new (Below.refl _ _) _
 have X0 : Bx w.heap.size w0 := by rw [hw0]; exact heap_alloc_new w _
 have hl0 : w.heap.size < w0.heap.size := (Array.getElem?_eq_some_iff.1 X0).1
 have hne0 : w.heap.size ≠ r /\ w.heap.size ≠ cu := ⟨Nat.ne_of_gt hr, Nat.ne_of_gt hq0⟩
 have C0 := hc.on (KQ.of_below B0)
 have h0 := h.below B0
 have SG := zH (rsign_any C0 h0 ⟨#[40]⟩)
 have p0 := h0.p
 have HC0 := zH C0
 have HX0 := zH X0
 have HK0 := zH (KQ.of_below (q := cu) (r := r) B0)
 have HCW := zH hc
 have HR := zH hR'
 have HNE := zH hne
 have RDD := zH RD
 have HD := zH hd
 have HS := zH hs
 have HW0 := zH hw0
 clear h hc hR hR' hne RD hd hw0 B0 X0 C0 h0 hs
 go_enter Tryz.func170, Tryz.ntmps170
 go_upto_region 1 with fail
 rw [<- HW0.out]
 go_wp2_with fail
 refine SG.out.mono ?_; rintro e w1 ⟨rfl, h1, k1⟩
 have h1' : RSt cu r A S.n cn (i + 1) c 0 w1 := by
  have e : S.sign i (ByteArray.mk #[40]).data.toList = true := HS.out;rw [e] at h1; exact h1
 have C1 := HC0.out.on k1
 have SK := zH (rskip_any C1 h1' ⟨#[41]⟩)
 have HX1 : Hid (Bx w.heap.size w1) := zH ((k1.blk hl0 hne0).trans HX0.out)
 have HK1 := zH (HK0.out.trans k1)
 have HC1 := zH C1
 have hl1 := Nat.lt_of_lt_of_le hl0 k1.size
 have p1 := h1'.p
 clear h1 h1' k1 C1 SG HX0 HK0 HC0 p0
 go_wp2_with fail
 refine SK.out.mono ?_; rintro e w2 ⟨rfl, h2, k2⟩
 obtain ⟨v, hv⟩ : ∃ v, S.sign (i + 1) (ByteArray.mk #[41]).data.toList = v := ⟨_, rfl⟩
 rw [hv] at h2 ⊢
 have HV : Hid (S.sign (i + 1) [41] = v) := zH hv
 have C2 := HC1.out.on k2
 have HX2 : Hid (Bx w.heap.size w2) := zH ((k2.blk hl1 hne0).trans HX1.out)
 have HK2 := zH (HK1.out.trans k2)
 have HC2 := zH C2
 have hl2 := Nat.lt_of_lt_of_le hl1 k2.size
 have H2 := zH h2
 have p2 := h2.p
 clear hv h2 k2 C2 SK HX1 HK1 HC1 p1
 go_upto_if 17 with fail
 go_cut [5] (fun s5 wx => ∃ (ss : List Ty) (n6 : Nat) (A6 : Option Addr) (c6 i c b g : Nat), s5 = .slice A6 n6 c6 /\ FnJ w cu r A S cn d f R ss n6 A6 c6 i c b g wx)
 case first =>
  cases v with
  | true =>
   have J : Hid (FnJ w cu r A S cn d f R [] 0 none 0 (i + 2) c 0 f w2) := zH
    ⟨HK2.out, HX2.out, GrR.start _ _, H2.out, by rw [HR.out, badR_0]; unfold fnR; rw [if_pos HV.out], Nat.le_refl _, by omega, hc5⟩
   clear H2 HC2 HX2 HK2 p2;go_wp2_with fail
   go_meet
   exact ⟨[], 0, none, 0, i + 2, c, 0, f, rfl, J.out⟩
  | false =>
   have hF : R = pSubs S f d (i + 1) c [] := by rw [HR.out]; unfold fnR; rw [if_neg (by rw [HV.out]; decide)]
   have PA := zH (params_any RDD.out HC2.out H2.out hc5 HD.out hd5 R hF HNE.out);clear hF H2;go_wp2_with fail
   refine PA.out.mono ?_; rintro e w3 ⟨ss, n6, A6, c6, i3, c3, b3, g, rfl, k3, ROW3, h3, hfin, hg, h21, h20, hc3⟩
   have C3 := HC2.out.on k3;have SG := zH (rsign_any C3 h3 ⟨#[41]⟩);have p3 := h3.p;have hs3 := k3.size;have HX3 : Hid (Bx w.heap.size w3) := zH ((k3.blk hl2 hne0).trans HX2.out);have HK3 := zH (HK2.out.trans k3);have HROW3 := zH (ROW3.lower (lo' := w.heap.size + 1) (by omega));have HFIN := zH hfin;have HL3 := zH (⟨hg, h21, hc3⟩ : g <= f /\ n6 <= 21 /\ c3 <= 500);have hr3 := h3.lt;have hq3 := h3.qlt;clear k3 ROW3 h3 hfin hg h21 h20 hc3 C3 PA HC2 HX2 HK2 p2;go_wp2_with fail
   refine SG.out.mono ?_; rintro e w4 ⟨rfl, h4, k4⟩
   have J : Hid (FnJ w cu r A S cn d f R ss n6 A6 c6 (psI b3 (S.sign i3 [41]) i3) c3 (psB b3 (S.sign i3 [41])) g w4) := zH
    ⟨HK3.out.trans k4, (k4.blk (by omega) hne0).trans HX3.out, HROW3.out.keep k4.size (fun b hb hlt => k4.blk hlt (by omega)), h4, by rw [HFIN.out]; exact shut_res, HL3.out.1, HL3.out.2.1, HL3.out.2.2⟩
   clear h4 k4 SG HX3 HK3 HROW3 HFIN HL3;go_wp2_with fail
   go_meet
   exact ⟨ss, n6, A6, c6, _, c3, _, g, rfl, J.out⟩
 case rest =>
  obtain ⟨ss, n6, A6, c6, i2, c2, b2, g, rfl, hJ⟩ := hcut;have HJ := zH hJ;clear hJ H2 HC2 HX2 HK2 p2 HV
  obtain ⟨g', hg', hF⟩ : ∃ g', g' < f /\ R = badR b2 i2 (pEnd S (g' + 1) d i2 c2 ss) := by
   have hfin := HJ.out.fin;by_cases hb : b2 = 0
   ·subst hb
    have hfu := HJ.out.fuel;cases g with
    | zero => exact absurd (by rw [hfin, badR_0]; unfold pEnd; rfl) (HNE.out 0)
    | succ g' => exact ⟨g', by omega, hfin⟩
   ·exact ⟨0, hf, by rw [hfin, badR_bad hb]⟩
  obtain ⟨w3, hw3⟩ : ∃ w3 : World, w3 = wc := ⟨_, rfl⟩;subst hw3;have C3 : RCtx W cu r A S w3 := HCW.out.on HJ.out.kp;have R3 := HJ.out.rd;have SG := zH (rsign_any C3 R3 ⟨#[45, 62]⟩);have p3 := R3.p;have HC3 := zH C3;have HF := zH hF;have hl3 : w.heap.size < w3.heap.size := (Array.getElem?_eq_some_iff.1 HJ.out.box).1;have h21 := HJ.out.some;have hcnt := HJ.out.cnt;have hl6 := HJ.out.rows.len6;clear C3 R3 hF;go_wp2_with fail
  refine SG.out.mono ?_; rintro e w5 ⟨rfl, h5, k5⟩
  obtain ⟨b5, hb5⟩ : ∃ b5, psB b2 (S.sign i2 [45, 62]) = b5 := ⟨_, rfl⟩;obtain ⟨i5, hi5⟩ : ∃ i5, psI b2 (S.sign i2 [45, 62]) i2 = i5 := ⟨_, rfl⟩;have h5' : RSt cu r A S.n cn i5 c2 b5 w5 := by rw [<- hb5, <- hi5]; exact h5
  have C5 := HC3.out.on k5
  have RE1 := RDD.out g' hg' d' (n6 + 1) i5 c2 b5 w5 C5 h5' hcnt hd5 (by omega) (fun hz j => by
   rw [HD.out, one_read];have hb0 : b2 = 0 := psB_0 (hb5.trans hz);subst hb0;have hF := HF.out;rw [badR_0] at hF;rw [<- hl6, <- hi5];exact end_hne (fun j => by rw [<- hF]; exact HNE.out j) (hb5.trans hz) j)
  rw [HD.out, one_read, <- HD.out] at RE1;have RE : Calls Tryz.prog 123 #[.pointer (some ⟨r, 0, none⟩), .int .i64 d', .int .i64 ((n6 : Int) + 1)] w5 (COut w5 cu r A S.n cn (badR b5 i5 (oneR S g' d i5 c2 n6))) := RE1;have HRE := zH RE;have HI5 := zH (⟨hb5, hi5⟩ : psB b2 (S.sign i2 [45, 62]) = b5 /\ psI b2 (S.sign i2 [45, 62]) i2 = i5);have hs5 := k5.size;have HROW5 := zH (HJ.out.rows.keep hs5 (fun b hb hlt => k5.blk hlt (by omega)));have HX5 : Hid (Bx w.heap.size w5) := zH ((k5.blk hl3 hne0).trans HJ.out.box);have HK5 := zH (HJ.out.kp.trans k5);have n63 : (n6 : Int) + 1 <= 9223372036854775807 := by omega
  have hr5 := h5'.lt;have hq5 := h5'.qlt;have HL6 := zH hl6;clear h5 h5' k5 C5 RE RE1 hb5 hi5 SG HC3 HJ hl6 p3;go_wp2_with fail
  refine HRE.out.mono ?_; rintro e w7 ⟨l, t, i7, c7, b7, rfl, hT7, k7, h7, hc7, hres⟩
  obtain ⟨An, cA, As, cS, rfl, -⟩ := hT7.parts;obtain ⟨w8, hw8⟩ : ∃ w8, w8 = w7.alloc (.cells #[.int .i64 t.kind, .string t.pkg, .int .i64 t.major, .string t.mod, .string t.name, .slice An t.names.length cA, .slice As t.subs.length cS] 48) := ⟨_, rfl⟩;have hs7 := k7.size;have B8 : Below w7.heap.size w7 w8 := by rw [hw8]; exact below_new (Below.refl _ _) _
  have h8 := h7.below B8;have s8 : w8.heap.size = w7.heap.size + 1 := by rw [hw8]; simp
  have O8 : w8.heap[w7.heap.size]? = some (.cells #[.int .i64 t.kind, .string t.pkg, .int .i64 t.major, .string t.mod, .string t.name, .slice An t.names.length cA, .slice As t.subs.length cS] 48 (0, 0)) := by rw [hw8]; exact heap_alloc_new w7 _
  have X8 : Bx w.heap.size w8 := (B8.block _ (by omega)).trans ((k7.blk (by omega) hne0).trans HX5.out);have K8 := (HK5.out.trans k7).trans (KQ.of_below B8);have ROW8 := HROW5.out.keep (w' := w8) (by omega) (fun b hb hlt => (B8.block b (by omega)).trans (k7.blk hlt (by omega)));have T8 : TyAt (strike (· < w5.heap.size) w8) [.int .i64 t.kind, .string t.pkg, .int .i64 t.major, .string t.mod, .string t.name, .slice An t.names.length cA, .slice As t.subs.length cS] t := hT7.move (by omega) fun b hb hS => ⟨hS, B8.block b hb⟩
  have HW8 := zH hw8;obtain ⟨x0, x1, x2, x3, x4, x5, x6⟩ := cq7 O8;simp at x0 x1 x2 x3 x4 x5 x6;obtain ⟨C, hC1, hC2, hown6, hC4⟩ := ROW8.subs;obtain ⟨inf, hi1', hy0, hy1, hy2⟩ := info_parts typ_info;have hMX : n6 + 1 <= maxLen := by unfold maxLen; omega
  have hwo : ∀ b, (Value.slice A6 n6 c6).ownBlock = some b -> b < w5.heap.size := fun b e => by
   obtain ⟨C', -, -, h3, -⟩ := HROW5.out.subs;exact (h3.lt b e).2
  have hAL : w.heap.size + 1 <= (w8.alloc (.cells #[.int .i64 t.kind, .string t.pkg, .int .i64 t.major, .string t.mod, .string t.name, .slice An t.names.length cA, .slice As t.subs.length cS] 48)).heap.size := by have e1 : (w8.alloc (.cells #[.int .i64 t.kind, .string t.pkg, .int .i64 t.major, .string t.mod, .string t.name, .slice An t.names.length cA, .slice As t.subs.length cS] 48)).heap.size = w8.heap.size + 1 := (by simp); omega
  have hNW : ∀ j u, ([.int .i64 t.kind, .string t.pkg, .int .i64 t.major, .string t.mod, .string t.name, .slice An t.names.length cA, .slice As t.subs.length cS] : List Value)[j]? = some u -> (w8.alloc (.cells #[.int .i64 t.kind, .string t.pkg, .int .i64 t.major, .string t.mod, .string t.name, .slice An t.names.length cA, .slice As t.subs.length cS] 48)).cell? ((⟨w8.heap.size, 0, none⟩ : Addr).add j) = some u := fun q u hq => by rw [WideShapes.add_plain, Nat.zero_add, cZ (heap_alloc_new w8 _), <- hq, <- List.getElem?_toArray]
  have S8 := zH s8;have hb8 : w7.heap.size < w8.heap.size := by omega
  have hb8' : w.heap.size + 1 <= w8.heap.size := by omega
  have hb8'' : w5.heap.size <= w8.heap.size := by omega
  clear hw8 s8 B8 O8 hT7 k7 h7;go_upto_region 8 with fail
  rw [<- HW8.out]
  have KEY : ∀ (gb cap : Nat) (w9 : World), w9.ownsRow (w.heap.size + 1) 48 7 (.slice (some ⟨gb, 0, none⟩) (n6 + 1) cap) (n6 + 1) (C.flatten ++ [.int .i64 t.kind, .string t.pkg, .int .i64 t.major, .string t.mod, .string t.name, .slice An t.names.length cA, .slice As t.subs.length cS]) -> (w8.alloc (.cells #[.int .i64 t.kind, .string t.pkg, .int .i64 t.major, .string t.mod, .string t.name, .slice An t.names.length cA, .slice As t.subs.length cS] 48)).grownBy w9 (Value.slice A6 n6 c6).ownBlock -> ((Value.slice A6 n6 c6).ownBlock = some gb \/ gb = (w8.alloc (.cells #[.int .i64 t.kind, .string t.pkg, .int .i64 t.major, .string t.mod, .string t.name, .slice An t.names.length cA, .slice As t.subs.length cS] 48)).heap.size) ->
    w9.heap[w.heap.size]? = some (.cells #[.int .i64 0, .string ⟨#[]⟩, .int .i64 0, .string ⟨#[]⟩, .string ⟨#[]⟩, .slice none 0 0, .slice none 0 0] 48 (0, 0)) /\ (∀ j v, ([.int .i64 7, .string ⟨#[]⟩, .int .i64 0, .string ⟨#[]⟩, .string ⟨#[]⟩, .slice none 0 0, .slice (some ⟨gb, 0, none⟩) (n6 + 1) cap] : List Value)[j]? = some v -> (w9.setRow w.heap.size #[.int .i64 7, .string ⟨#[]⟩, .int .i64 0, .string ⟨#[]⟩, .string ⟨#[]⟩, .slice none 0 0, .slice (some ⟨gb, 0, none⟩) (n6 + 1) cap]).cell? ⟨w.heap.size, j, none⟩ = some v) /\
    COut w cu r A S.n cn R (.returned (.agg #[.int .i64 7, .string ⟨#[]⟩, .int .i64 0, .string ⟨#[]⟩, .string ⟨#[]⟩, .slice none 0 0, .slice (some ⟨gb, 0, none⟩) (n6 + 1) cap])) (w9.setRow w.heap.size #[.int .i64 7, .string ⟨#[]⟩, .int .i64 0, .string ⟨#[]⟩, .string ⟨#[]⟩, .slice none 0 0, .slice (some ⟨gb, 0, none⟩) (n6 + 1) cap]) := by
   intro gb cap w9 hown9 hgrow hat;obtain ⟨ROW9, K9, old9, oth9, hs9⟩ := GrR.moreK ROW8 (by omega) hb8'' hwo hC1 hC2 hC4 rfl T8 hown9 hgrow hat K8 (by omega)
   have h9 : RSt cu r A S.n cn i7 c7 b7 w9 := h8.keep fun k hk hlt => oth9 k (fun vs fr e => by
    rcases hk _ _ _ e with q | q | q <;> exact absurd q (by decide)) hlt
   have X9 : Bx w.heap.size w9 := (old9 _ (by omega) (by omega)).trans X8
   have FIN : R = badR b7 i7 (.ok (.mk 7 ⟨#[]⟩ 0 ⟨#[]⟩ ⟨#[]⟩ [] (ss ++ [t])) i7 c7) := by
    rw [HF.out]; exact end_res (by rw [HI5.out.1, HI5.out.2, HL6.out]; exact hres.symm)
   have DONE := ROW9.done 7 (m := w.heap.size + 1) (Nat.le_refl _) (by omega) (by omega);exact ⟨X9, COut.seal (R := R) (Nat.le_refl _) X9 K9 DONE (Nat.lt_succ_self _) hr h9 hc7 FIN.symm⟩
  have HKEY := zH KEY;clear hres h8 X8 K8 ROW8 T8 hC1 hC2 hC4 HRE HROW5 HK5 HX5 hwo KEY
  go_wp2_with (first
   | ((with_reducible refine wpList_append_lies _ ?_ (.tmp 37) (.tmp 39) 46 ?_ (w.heap.size + 1) 48 inf _ 7 112 ?_ hi1' hy0 hy1 hy2 ?_ ?_ (.slice A6 n6 c6) (n6) _ ?_ (hown6.alloc _) ⟨w8.heap.size, 0, none⟩ 1 1 [.int .i64 t.kind, .string t.pkg, .int .i64 t.major, .string t.mod, .string t.name, .slice An t.names.length cA, .slice As t.subs.length cS] ?_ ?_ ?_ ?_ ?_ ?_ ?_ ?_ _ rfl ?_); rfl; rfl; exact Tryz.underlying46; rfl; exact Nat.zero_lt_succ _; rfl; rfl; rfl; exact hNW; exact (fun u hu => by simp at hu; rcases hu with rfl | rfl | rfl | rfl | rfl | rfl | rfl <;> rfl); exact Nat.one_pos; exact hMX; omega; exact hAL; intro gb cap w9 hown9 hgrow hat hlt9; obtain ⟨X9, SE⟩ := HKEY.out gb cap w9 hown9 hgrow hat; have SEAL := zH SE; clear SE hown9 hgrow hat x0 x1 x2 x3 x4 x5 x6 hown6 hNW hAL hMX hi1' hy0 hy1 hy2)
   | (((with_reducible refine wpList_putRow 48 (w.heap.size) #[.int .i64 7, .string ⟨#[]⟩, .int .i64 0, .string ⟨#[]⟩, .string ⟨#[]⟩, .slice none 0 0, .slice (some ⟨gb, 0, none⟩) (n6 + 1) cap] _ _ X9 ?_ ?_ ?_ ?_ ?_ ?_); exact tySize; rfl; exact tyOne; iterate 2 (focus (first | (go_simp; done) | rfl)))))
  exact ret_agg1 (fn := Tryz.f170) (vs := [.int .i64 7, .string ⟨#[]⟩, .int .i64 0, .string ⟨#[]⟩, .string ⟨#[]⟩, .slice none 0 0, .slice (some ⟨gb, 0, none⟩) (n6 + 1) cap]) (b := w.heap.size) rfl rfl Tryz.underlying48 (by kernel_rfl) SEAL.out.1 rfl SEAL.out.2
def behindR (S : Toks) (k : Int) (z : List UInt8) (f d i c : Nat) (ns : List ByteArray) (ss : List Ty) : Res Ty :=
  if S.sign (i + 1) [58] = false then .err 2 (i + 1)
  else match pT S f (d + 1) (i + 2) c with
    | .err b j => .err b j
    | .ok s j c' =>
      if S.sign j z = true then .ok (Ty.mk k ⟨#[]⟩ 0 ⟨#[]⟩ ⟨#[]⟩ (putAt (posOf (S.T i) ns ns.length) (S.T i) ns) (putAt (posOf (S.T i) ns ns.length) s ss)) (j + 1) c'
      else if S.sign j [44] = false then .err 2 j
      else pParts S k z f d (j + 1) c' (putAt (posOf (S.T i) ns ns.length) (S.T i) ns) (putAt (posOf (S.T i) ns ns.length) s ss)
theorem parts_eq (S : Toks) (k : Int) (z : List UInt8) (f d i c : Nat) (ns : List ByteArray) (ss : List Ty) : pParts S k z (f + 1) d i c ns ss =
    if S.nameOk k i = false then .err 2 i else if 20 <= ns.length then .err 3 i else if twice (S.T i) ns = true then .err 5 i else behindR S k z f d i c ns ss := by
  conv => lhs; unfold pParts
  rfl
theorem behind_hne {S : Toks} {k : Int} {z : List UInt8} {f d i c : Nat} {ns : List ByteArray} {ss : List Ty} (h : ∀ j, behindR S k z f d i c ns ss ≠ .err 99 j) (hq : psB 0 (S.sign (i + 1) [58]) = 0) : ∀ j, pT S f (d + 1) (psI 0 (S.sign (i + 1) [58]) (i + 1)) c ≠ .err 99 j := fun j e => h j (by
  unfold behindR
  by_cases hs : S.sign (i + 1) [58] = false
  · rw [hs] at hq; cases hq
  · rw [if_neg hs]
    have : S.sign (i + 1) [58] = true := by simpa using hs
    rw [this, psI_yes] at e;rw [e])
theorem behind_more {S : Toks} {k : Int} {z : List UInt8} {f d i c b2 i2 c2 : Nat} {ns : List ByteArray} {ss : List Ty} {t : Ty}
    (h : badR (psB 0 (S.sign (i + 1) [58])) (psI 0 (S.sign (i + 1) [58]) (i + 1)) (pT S f (d + 1) (psI 0 (S.sign (i + 1) [58]) (i + 1)) c) = badR b2 i2 (.ok t i2 c2)) (hq : (decide (b2 = 0) && S.sign i2 z) = false) :
    behindR S k z f d i c ns ss = badR (psB b2 (S.sign i2 [44])) (psI b2 (S.sign i2 [44]) i2) (pParts S k z f d (psI b2 (S.sign i2 [44]) i2) c2 (putAt (posOf (S.T i) ns ns.length) (S.T i) ns) (putAt (posOf (S.T i) ns ns.length) t ss)) := by
  rw [sign_res (S.sign i2 [44]) b2 i2 (fun j => pParts S k z f d j c2 (putAt (posOf (S.T i) ns ns.length) (S.T i) ns) (putAt (posOf (S.T i) ns ns.length) t ss))];rw [sign_res (S.sign (i + 1) [58]) 0 (i + 1) (fun j => pT S f (d + 1) j c), badR_0] at h;unfold behindR
  by_cases hs : S.sign (i + 1) [58] = false
  · rw [if_pos hs] at h ⊢
    by_cases hb : b2 = 0
    · subst hb; cases h
    · rw [badR_ne _ _ hb] at h ⊢; exact h
  · rw [if_neg hs] at h ⊢
    rw [h];by_cases hb : b2 = 0
    · subst hb
      rw [badR_0, badR_0];have h4 : ¬ S.sign i2 z = true := by simpa using hq
      show (if _ then _ else _) = _
      rw [if_neg h4]
    · rw [badR_ne _ _ hb, badR_ne _ _ hb]
theorem behind_last {S : Toks} {k : Int} {z : List UInt8} {f d i c b2 i2 c2 : Nat} {ns : List ByteArray} {ss : List Ty} {t : Ty}
    (h : badR (psB 0 (S.sign (i + 1) [58])) (psI 0 (S.sign (i + 1) [58]) (i + 1)) (pT S f (d + 1) (psI 0 (S.sign (i + 1) [58]) (i + 1)) c) = badR b2 i2 (.ok t i2 c2)) (hq : (decide (b2 = 0) && S.sign i2 z) = true) :
    b2 = 0 /\ behindR S k z f d i c ns ss = .ok (Ty.mk k ⟨#[]⟩ 0 ⟨#[]⟩ ⟨#[]⟩ (putAt (posOf (S.T i) ns ns.length) (S.T i) ns) (putAt (posOf (S.T i) ns ns.length) t ss)) (i2 + 1) c2 := by
  simp only [Bool.and_eq_true, decide_eq_true_eq] at hq;obtain ⟨rfl, h4⟩ := hq;refine ⟨rfl, ?_⟩;rw [sign_res (S.sign (i + 1) [58]) 0 (i + 1) (fun j => pT S f (d + 1) j c), badR_0, badR_0] at h;unfold behindR
  by_cases hs : S.sign (i + 1) [58] = false
  · rw [if_pos hs] at h; cases h
  · rw [if_neg hs] at h ⊢
    rw [h];show (if _ then _ else _) = _
    rw [if_pos h4]
theorem behind_fw {S : Toks} {f d i c b2 i2 c2 : Nat} {t : Ty} (h : badR (psB 0 (S.sign (i + 1) [58])) (psI 0 (S.sign (i + 1) [58]) (i + 1)) (pT S f (d + 1) (psI 0 (S.sign (i + 1) [58]) (i + 1)) c) = badR b2 i2 (.ok t i2 c2)) (hb : b2 = 0) : i < i2 /\ i < S.n := by
  subst hb;rw [badR_0] at h;obtain ⟨h1, h2⟩ := badR_ok h;have := (fw_all S f).1 (d + 1) (psI 0 (S.sign (i + 1) [58]) (i + 1)) c
  rw [h2] at this;have h3 : psI 0 (S.sign (i + 1) [58]) (i + 1) < i2 := this
  have hs : S.sign (i + 1) [58] = true := by
    cases hq : S.sign (i + 1) [58] with
    | true => rfl
    | false => rw [hq] at h1; cases h1
  rw [hs, psI_yes] at h3;have := sign_lt hs
  exact ⟨by omega, by omega⟩
/-! A name among names -/
theorem put_len {α : Type} (p : Nat) (x : α) (l : List α) (h : p <= l.length) : (putAt p x l).length = l.length + 1 := by unfold putAt; simp; omega
theorem put_end {α : Type} (x : α) (l : List α) : putAt l.length x l = l ++ [x] := by unfold putAt; simp
theorem put_at {α : Type} (p : Nat) (x : α) (l : List α) (h : p <= l.length) : (putAt p x l)[p]? = some x := by
  unfold putAt
  rw [List.getElem?_append_right (by simp; omega)];simp [Nat.min_eq_left h]
theorem put_ahead {α : Type} (m : Nat) (x : α) (l : List α) (h : m < l.length) : (putAt (m + 1) x l)[m]? = l[m]? := by
  unfold putAt
  rw [List.getElem?_append_left (by simp; omega), List.getElem?_take_of_lt (by omega)]
theorem put_step {α : Type} (m : Nat) (x y : α) (l : List α) (h : l[m]? = some y) : ((putAt (m + 1) x l).set (m + 1) y).set m x = putAt m x l := by
  have hm := (List.getElem?_eq_some_iff.1 h).1;have hy : l[m] = y := (List.getElem?_eq_some_iff.1 h).2;apply List.ext_getElem?
  intro j;unfold putAt
  rcases Nat.lt_or_ge j m with hj | hj
  · rw [List.getElem?_set_ne (by omega), List.getElem?_set_ne (by omega), List.getElem?_append_left (by simp; omega), List.getElem?_append_left (by simp; omega), List.getElem?_take_of_lt (by omega), List.getElem?_take_of_lt hj]
  · rcases Nat.eq_or_lt_of_le hj with rfl | hj
    · rw [List.getElem?_set_self (by simp; omega), List.getElem?_append_right (by rw [List.length_take]; omega)]
      simp [Nat.min_eq_left (Nat.le_of_lt hm)]
    · rw [List.getElem?_set_ne (by omega)]
      rcases Nat.eq_or_lt_of_le (Nat.succ_le_of_lt hj) with e | hj2
      · have e : j = m + 1 := e.symm
        subst e;rw [List.getElem?_set_self (by simp; omega), List.getElem?_append_right (by simp; omega)];simp [Nat.min_eq_left (Nat.le_of_lt hm), hy, hm]
      · rw [List.getElem?_set_ne (by omega), List.getElem?_append_right (by simp; omega), List.getElem?_append_right (by simp; omega)]
        simp only [List.length_take, Nat.min_eq_left (show m + 1 <= l.length by omega), Nat.min_eq_left (Nat.le_of_lt hm)];obtain ⟨q, rfl⟩ : ∃ q, j = m + 2 + q := ⟨j - (m + 2), by omega⟩;rw [show m + 2 + q - (m + 1) = q + 1 by omega, show m + 2 + q - m = (q + 1) + 1 by omega];simp [List.getElem?_drop];congr 1; omega
theorem posOf_le (s : ByteArray) (ns : List ByteArray) : ∀ k, posOf s ns k <= k
  | 0 => Nat.le_refl _
  | k + 1 => by
    unfold posOf
    split
    · have := posOf_le s ns k; omega
    · exact Nat.le_refl _
/-! Rows in which one is set -/
theorem GrR.setName {lo g5 : Nat} {ns : List ByteArray} {n5 c5 : Nat} {ss : List Ty} {n6 : Nat} {v6 : Value} {w : World} (h : GrR lo ns n5 ss n6 (.slice (some ⟨g5, 0, none⟩) n5 c5) v6 w) (i : Nat) {s : ByteArray} (hs : s.size <= 9223372036854775807) :
    GrR lo (ns.set i s) n5 ss n6 (.slice (some ⟨g5, 0, none⟩) n5 c5) v6 (w.setCell ⟨g5, i, none⟩ (.string s)) /\ ∀ l t, GrT lo (.slice (some ⟨g5, 0, none⟩) n5 c5) v6 w l t -> GrT lo (.slice (some ⟨g5, 0, none⟩) n5 c5) v6 (w.setCell ⟨g5, i, none⟩ (.string s)) l t := by
  have ot : ∀ b, b ≠ g5 -> (w.setCell ⟨g5, i, none⟩ (.string s)).heap[b]? = w.heap[b]? := fun b hb => Below.heap_setCell _ _ _ _ hb
  have mv : ∀ l t, GrT lo (.slice (some ⟨g5, 0, none⟩) n5 c5) v6 w l t -> GrT lo (.slice (some ⟨g5, 0, none⟩) n5 c5) v6 (w.setCell ⟨g5, i, none⟩ (.string s)) l t := fun l t hT =>
    TyAt.move hT (by simp) fun b _ hS => ⟨hS, ot b (fun e => hS (.inr (.inl (by rw [e]; rfl))))⟩
  obtain ⟨C, h1, h2, h3, h4⟩ := h.subs;refine ⟨⟨by rw [List.length_set]; exact h.len5, h.len6, ?_, fun x hx => ?_, ⟨C, h1, h2, ?_, fun i l t hl ht => mv l t (h4 i l t hl ht)⟩, h.apart⟩, mv⟩
  · rw [List.map_set]
    exact (h.names.stored i (.string s)).1
  · rcases List.mem_or_eq_of_mem_set hx with hx | rfl
    · exact h.szs x hx
    · exact hs
  · refine ⟨h3.1, ?_⟩
    rcases h3.2 with e | ⟨g6, cap6, cur6, hv, hB, hg6, rest⟩
    · exact .inl e
    · refine .inr ⟨g6, cap6, cur6, hv, hB, (ot g6 fun e => ?_).trans hg6, rest⟩
      exact h.apart g5 rfl (by rw [hv, <- e]; rfl)
theorem setCells7 (w : World) (g o : Nat) (v0 v1 v2 v3 v4 v5 v6 : Value) : w.setCells g o [v0, v1, v2, v3, v4, v5, v6] = ((((((w.setCell ⟨g, o, none⟩ v0).setCell ⟨g, o + 1, none⟩ v1).setCell ⟨g, o + 2, none⟩ v2).setCell ⟨g, o + 3, none⟩ v3).setCell ⟨g, o + 4, none⟩ v4).setCell ⟨g, o + 5, none⟩ v5).setCell ⟨g, o + 6, none⟩ v6 := by
  simp [World.setCells]
theorem setCells7_other {w : World} {g o b : Nat} {l : List Value} (hl : l.length = 7) (hne : b ≠ g) : (w.setCells g o l).heap[b]? = w.heap[b]? := by
  obtain ⟨v0, v1, v2, v3, v4, v5, v6, rfl⟩ := list7 l hl;rw [setCells7, Below.heap_setCell _ _ _ _ hne, Below.heap_setCell _ _ _ _ hne, Below.heap_setCell _ _ _ _ hne, Below.heap_setCell _ _ _ _ hne, Below.heap_setCell _ _ _ _ hne, Below.heap_setCell _ _ _ _ hne, Below.heap_setCell _ _ _ _ hne]
theorem setCells7_size {w : World} {g o : Nat} {l : List Value} (hl : l.length = 7) : (w.setCells g o l).heap.size = w.heap.size := by
  obtain ⟨v0, v1, v2, v3, v4, v5, v6, rfl⟩ := list7 l hl;rw [setCells7]; simp
theorem Kp.putCells {r : Nat} {w a : World} (h : Kp r w a) (g o : Nat) (hp : w.heap.size <= g) {l : List Value} (hl : l.length = 7) : Kp r w (a.setCells g o l) := by
  obtain ⟨v0, v1, v2, v3, v4, v5, v6, rfl⟩ := list7 l hl;rw [setCells7];exact ((((((h.putNew _ hp _).putNew _ hp _).putNew _ hp _).putNew _ hp _).putNew _ hp _).putNew _ hp _).putNew _ hp _
theorem GrR.setSub {lo g6 : Nat} {ns : List ByteArray} {n5 : Nat} {ss : List Ty} {n6 c6 : Nat} {v5 : Value} {w : World} (h : GrR lo ns n5 ss n6 v5 (.slice (some ⟨g6, 0, none⟩) n6 c6) w) (i : Nat) (hi : i < n6) {l : List Value} {t : Ty} (hl : l.length = 7) (hT : GrT lo v5 (.slice (some ⟨g6, 0, none⟩) n6 c6) w l t) :
    GrR lo ns n5 (ss.set i t) n6 v5 (.slice (some ⟨g6, 0, none⟩) n6 c6) (w.setCells g6 (i * 7) l) /\ ∀ l' t', GrT lo v5 (.slice (some ⟨g6, 0, none⟩) n6 c6) w l' t' -> GrT lo v5 (.slice (some ⟨g6, 0, none⟩) n6 c6) (w.setCells g6 (i * 7) l) l' t' := by
  have ot : ∀ b, b ≠ g6 -> (w.setCells g6 (i * 7) l).heap[b]? = w.heap[b]? := fun b hb => setCells7_other hl hb
  have mv : ∀ l' t', GrT lo v5 (.slice (some ⟨g6, 0, none⟩) n6 c6) w l' t' -> GrT lo v5 (.slice (some ⟨g6, 0, none⟩) n6 c6) (w.setCells g6 (i * 7) l) l' t' := fun l' t' hT =>
    TyAt.move hT (by rw [setCells7_size hl]; exact Nat.le_refl _) fun b _ hS => ⟨hS, ot b (fun e => hS (.inr (.inr (by rw [e]; rfl))))⟩
  obtain ⟨C, h1, h2, h3, h4⟩ := h.subs;refine ⟨⟨h.len5, by rw [List.length_set]; exact h.len6, ?_, h.szs, ⟨C.set i l, by rw [List.length_set]; exact h1, fun x hx => ?_, ?_, fun j x u hx hu => ?_⟩, h.apart⟩, mv⟩
  · refine ⟨h.names.1, ?_⟩
    rcases h.names.2 with e | ⟨g5, cap5, cur5, hv, hB, hg5, rest⟩
    · exact .inl e
    · refine .inr ⟨g5, cap5, cur5, hv, hB, (ot g5 fun e => ?_).trans hg5, rest⟩
      exact h.apart g5 (by rw [hv]; rfl) (by rw [e]; rfl)
  · rcases List.mem_or_eq_of_mem_set hx with hx | rfl
    · exact h2 x hx
    · exact hl
  · obtain ⟨v0, v1, v2, v3, v4, v5, v6, rfl⟩ := list7 l hl
    rw [flat7_set C h2 i (by omega), setCells7];exact ((((((((h3.stored _ v0).1.stored _ v1).1.stored _ v2).1.stored _ v3).1.stored _ v4).1.stored _ v5).1).stored _ v6).1
  · by_cases hij : i = j
    · subst hij
      rw [List.getElem?_set_self (by omega)] at hx;rw [List.getElem?_set_self (by rw [h.len6]; exact hi)] at hu;obtain rfl := Option.some.inj hx;obtain rfl := Option.some.inj hu;exact mv _ _ hT
    · rw [List.getElem?_set_ne hij] at hx hu
      exact mv _ _ (h4 j x u hx hu)
theorem GrR.moreName {w : World} {r : Nat} {ns : List ByteArray} {n5 : Nat} {A5 : Option Addr} {c5 : Nat} {ss : List Ty} {n6 : Nat} {A6 : Option Addr} {c6 g cap lo : Nat} {w1 w3 : World} {o : Obj} {s : ByteArray}
    (h : GrR lo ns n5 ss n6 (.slice A5 n5 c5) (.slice A6 n6 c6) w1) (hlo : lo <= w1.heap.size) (hs : s.size <= 9223372036854775807)
    (hown : w3.ownsRow lo 9 1 (.slice (some ⟨g, 0, none⟩) (n5 + 1) cap) (n5 + 1) (ns.map Value.string ++ [.string s])) (hgrow : (w1.alloc o).grownBy w3 (Value.slice A5 n5 c5).ownBlock)
    (hat : (Value.slice A5 n5 c5).ownBlock = some g \/ g = (w1.alloc o).heap.size) {B : Nat} (hB : B < lo) {u0 u1 u2 u3 u4 u5 u6 : Value} (hbox : w1.heap[B]? = some (.cells #[u0, u1, u2, u3, u4, u5, u6] 48 (0, 0)))
    (hK : Kp r w w1) (hw : w.heap.size <= B) :
    GrR lo (ns ++ [s]) (n5 + 1) ss n6 (.slice (some ⟨g, 0, none⟩) (n5 + 1) cap) (.slice A6 n6 c6) (w3.setCell ⟨B, 5, none⟩ (.slice (some ⟨g, 0, none⟩) (n5 + 1) cap)) /\
    (∀ l t, GrT lo (.slice A5 n5 c5) (.slice A6 n6 c6) w1 l t -> GrT lo (.slice (some ⟨g, 0, none⟩) (n5 + 1) cap) (.slice A6 n6 c6) (w3.setCell ⟨B, 5, none⟩ (.slice (some ⟨g, 0, none⟩) (n5 + 1) cap)) l t) /\
    (w3.setCell ⟨B, 5, none⟩ (.slice (some ⟨g, 0, none⟩) (n5 + 1) cap)).heap[B]? = some (.cells #[u0, u1, u2, u3, u4, .slice (some ⟨g, 0, none⟩) (n5 + 1) cap, u6] 48 (0, 0)) /\
    Kp r w (w3.setCell ⟨B, 5, none⟩ (.slice (some ⟨g, 0, none⟩) (n5 + 1) cap)) /\ (∀ b, b < w1.heap.size -> b ≠ B -> (Value.slice A5 n5 c5).ownBlock ≠ some b -> (w3.setCell ⟨B, 5, none⟩ (.slice (some ⟨g, 0, none⟩) (n5 + 1) cap)).heap[b]? = w1.heap[b]?) /\
    w3.cell? ⟨B, 5, none⟩ = some u5 /\ w3.frozen? ⟨B, 5, none⟩ = false /\ w1.heap.size <= (w3.setCell ⟨B, 5, none⟩ (.slice (some ⟨g, 0, none⟩) (n5 + 1) cap)).heap.size := by
  have hlow : ∀ b, (Value.slice A5 n5 c5).ownBlock = some b -> lo <= b := fun b e => (h.names.lt b e).1
  obtain ⟨R3, mv⟩ := h.addName hown rfl hgrow hat hs;have hsz : (w1.alloc o).heap.size = w1.heap.size + 1 := by simp
  have hsz3 := hgrow.size
  have old3 : ∀ b, b < w1.heap.size -> (Value.slice A5 n5 c5).ownBlock ≠ some b -> w3.heap[b]? = w1.heap[b]? := fun b hb hne => by
    rw [hgrow.block b (by omega) (fun e => hne e.symm)];exact Lib.alloc_old w1 o b hb
  have hb3 := (old3 B (by omega) (fun e => by have := hlow B e; omega)).trans hbox
  refine ⟨R3.keep (by simp) (fun b hb _ => Below.heap_setCell _ _ _ _ (by show b ≠ B; omega)), fun l t hT => (mv l t hT).keep (by simp) (fun b hb _ => Below.heap_setCell _ _ _ _ (by show b ≠ B; omega)), ?_, ?_,
    fun b hb hne hno => (Below.heap_setCell _ _ _ _ (by show b ≠ B; omega)).trans (old3 b hb hno), cZ hb3 5, Lib.frozen_of_heap hb3 5, by simp; omega⟩
  · have := Joins.block_setCell (i := 5) hb3 (.slice (some ⟨g, 0, none⟩) (n5 + 1) cap); simpa using this
  · refine Kp.putNew ((hK.alloc o).grow hgrow fun b e => ?_) _ hw _
    have := hlow b e; omega
theorem GrR.moreSub {w : World} {r : Nat} {ns : List ByteArray} {n5 : Nat} {A5 : Option Addr} {c5 : Nat} {ss : List Ty} {n6 : Nat} {A6 : Option Addr} {c6 g cap lo : Nat} {w1 w3 : World} {o : Obj} {l : List Value} {t : Ty} {C : List (List Value)}
    (h : GrR lo ns n5 ss n6 (.slice A5 n5 c5) (.slice A6 n6 c6) w1) (hlo : lo <= w1.heap.size)
    (hC1 : C.length = n6) (hC2 : ∀ l, l ∈ C -> l.length = 7) (hC4 : ∀ (i : Nat) (l : List Value) (t : Ty), C[i]? = some l -> ss[i]? = some t -> GrT lo (.slice A5 n5 c5) (.slice A6 n6 c6) w1 l t) (hl : l.length = 7)
    (hGT : GrT lo (.slice A5 n5 c5) (.slice A6 n6 c6) w1 l t) (hown : w3.ownsRow lo 48 7 (.slice (some ⟨g, 0, none⟩) (n6 + 1) cap) (n6 + 1) (C.flatten ++ l)) (hgrow : (w1.alloc o).grownBy w3 (Value.slice A6 n6 c6).ownBlock)
    (hat : (Value.slice A6 n6 c6).ownBlock = some g \/ g = (w1.alloc o).heap.size) {B : Nat} (hB : B < lo) {u0 u1 u2 u3 u4 u5 u6 : Value} (hbox : w1.heap[B]? = some (.cells #[u0, u1, u2, u3, u4, u5, u6] 48 (0, 0)))
    (hK : Kp r w w1) (hw : w.heap.size <= B) :
    GrR lo ns n5 (ss ++ [t]) (n6 + 1) (.slice A5 n5 c5) (.slice (some ⟨g, 0, none⟩) (n6 + 1) cap) (w3.setCell ⟨B, 6, none⟩ (.slice (some ⟨g, 0, none⟩) (n6 + 1) cap)) /\
    (w3.setCell ⟨B, 6, none⟩ (.slice (some ⟨g, 0, none⟩) (n6 + 1) cap)).heap[B]? = some (.cells #[u0, u1, u2, u3, u4, u5, .slice (some ⟨g, 0, none⟩) (n6 + 1) cap] 48 (0, 0)) /\
    Kp r w (w3.setCell ⟨B, 6, none⟩ (.slice (some ⟨g, 0, none⟩) (n6 + 1) cap)) /\ (∀ b, b < lo -> b ≠ B -> (w3.setCell ⟨B, 6, none⟩ (.slice (some ⟨g, 0, none⟩) (n6 + 1) cap)).heap[b]? = w1.heap[b]?) /\
    w3.cell? ⟨B, 6, none⟩ = some u6 /\ w3.frozen? ⟨B, 6, none⟩ = false /\ w1.heap.size <= (w3.setCell ⟨B, 6, none⟩ (.slice (some ⟨g, 0, none⟩) (n6 + 1) cap)).heap.size := by
  have hlow : ∀ b, (Value.slice A6 n6 c6).ownBlock = some b -> lo <= b := fun b e => by
    obtain ⟨C', -, -, h3, -⟩ := h.subs;exact (h3.lt b e).1
  have R3 := h.addSub hC1 hC2 hC4 hl hGT hown rfl hgrow hat;have hsz : (w1.alloc o).heap.size = w1.heap.size + 1 := by simp
  have hsz3 := hgrow.size
  have old3 : ∀ b, b < lo -> w3.heap[b]? = w1.heap[b]? := fun b hb => by
    rw [hgrow.block b (by omega) (fun e => by have := hlow b e.symm; omega)];exact Lib.alloc_old w1 o b (by omega)
  have hb3 := (old3 B hB).trans hbox;refine ⟨R3.keep (by simp) (fun b hb _ => Below.heap_setCell _ _ _ _ (by show b ≠ B; omega)), ?_, ?_, fun b hb hne => (Below.heap_setCell _ _ _ _ (by show b ≠ B; omega)).trans (old3 b hb), cZ hb3 6, Lib.frozen_of_heap hb3 6, by simp; omega⟩
  · have := Joins.block_setCell (i := 6) hb3 (.slice (some ⟨g, 0, none⟩) (n6 + 1) cap); simpa using this
  · refine Kp.putNew ((hK.alloc o).grow hgrow fun b e => ?_) _ hw _
    have := hlow b e; omega
structure PaI (w : World) (r : Nat) (A : Option Addr) (S : Toks) (cn : Nat) (k : Int) (z : List UInt8) (d f : Nat) (F : Res Ty) (ns : List ByteArray) (ss : List Ty) (n : Nat) (A5 : Option Addr) (c5 : Nat) (A6 : Option Addr) (c6 i c b g : Nat) (wr : World) : Prop where
  kp : Kp r w wr
  box : wr.heap[w.heap.size + 1]? = some (.cells #[.int .i64 k, .string ⟨#[]⟩, .int .i64 0, .string ⟨#[]⟩, .string ⟨#[]⟩, .slice A5 n c5, .slice A6 n c6] 48 (0, 0))
  res : wr.heap[w.heap.size]? = some (.cells #[.int .i64 0, .string ⟨#[]⟩, .int .i64 0, .string ⟨#[]⟩, .string ⟨#[]⟩, .slice none 0 0, .slice none 0 0] 48 (0, 0))
  rows : GrR (w.heap.size + 2) ns n ss n (.slice A5 n c5) (.slice A6 n c6) wr
  rd : Rd r A S.n cn i c b wr
  fin : F = badR b i (pParts S k z g d i c ns ss)
  fuel : g <= f
  most : n <= 20
  cnt : c <= 500
end Go.Proofs.YtddlmigofilejaaGreatDoor
namespace Go.Proofs.YtddlmigofilejaaGreatDoor.M
open Go
theorem bl_irrefl : ∀ a : List UInt8, Op.bytesLess a a = false
 | [] => rfl
 | x :: a => by
  have : ¬ x < x := by simp
  simp [Op.bytesLess, bl_irrefl a]
theorem bl_trans : ∀ a b c : List UInt8, Op.bytesLess a b = true -> Op.bytesLess b c = true -> Op.bytesLess a c = true
 | [], [], _, h, _ => by simp [Op.bytesLess] at h
 | [], _ :: _, [], _, h => by simp [Op.bytesLess] at h
 | [], _ :: _, _ :: _, _, _ => by simp [Op.bytesLess]
 | _ :: _, [], _, h, _ => by simp [Op.bytesLess] at h
 | _ :: _, _ :: _, [], _, h => by simp [Op.bytesLess] at h
 | x :: a, y :: b, z :: c, h1, h2 => by
  simp only [Op.bytesLess, Bool.or_eq_true, Bool.and_eq_true, decide_eq_true_eq, beq_iff_eq] at h1 h2 ⊢;rcases h1 with h1 | ⟨rfl, h1⟩
  ·rcases h2 with h2 | ⟨rfl, h2⟩
   ·exact .inl (UInt8.lt_trans h1 h2)
   ·exact .inl h1
  ·rcases h2 with h2 | ⟨rfl, h2⟩
   ·exact .inl h2
   ·exact .inr ⟨rfl, bl_trans a b c h1 h2⟩
theorem bl_tri : ∀ a b : List UInt8, Op.bytesLess a b = false -> Op.bytesLess b a = false -> a = b
 | [], [], _, _ => rfl
 | [], _ :: _, h, _ => by simp [Op.bytesLess] at h
 | _ :: _, [], _, h => by simp [Op.bytesLess] at h
 | x :: a, y :: b, h1, h2 => by
  simp only [Op.bytesLess, Bool.or_eq_false_iff, Bool.and_eq_false_iff, decide_eq_false_iff_not, beq_eq_false_iff_ne] at h1 h2;have hxy : x = y := UInt8.le_antisymm (UInt8.not_lt.1 h2.1) (UInt8.not_lt.1 h1.1);subst hxy;have := bl_tri a b (by rcases h1.2 with h | h; exact absurd rfl h; exact h) (by rcases h2.2 with h | h; exact absurd rfl h; exact h)
  rw [this]
theorem bl_ntrans (a b c : List UInt8) (h1 : Op.bytesLess a b = false) (h2 : Op.bytesLess b c = false) : Op.bytesLess a c = false := by
 cases h : Op.bytesLess a c with
 | false => rfl
 | true =>
  exfalso
  cases hb : Op.bytesLess b a with
  | true => have := bl_trans b a c hb h; rw [this] at h2; cases h2
  | false =>
   have := bl_tri a b h1 hb
   subst this;rw [h] at h2; cases h2
abbrev FdT := ByteArray × Ty
def leF (x y : FdT) : Prop := Op.bytesLess y.1.toList x.1.toList = false
def stepF (a : List ByteArray × List Ty) (x : FdT) : List ByteArray × List Ty := (putAt (posOf x.1 a.1 a.1.length) x.1 a.1, putAt (posOf x.1 a.1 a.1.length) x.2 a.2)
def pIns (P : List FdT) : List ByteArray × List Ty := P.foldl stepF ([], [])
def insN (P : List FdT) : List ByteArray := (pIns P).1
def insS (P : List FdT) : List Ty := (pIns P).2
theorem pIns_snoc (P : List FdT) (x : FdT) : pIns (P ++ [x]) = stepF (pIns P) x := by unfold pIns; rw [List.foldl_append]; rfl
theorem insN_snoc (P : List FdT) (x : FdT) : insN (P ++ [x]) = putAt (posOf x.1 (insN P) (insN P).length) x.1 (insN P) := by unfold insN; rw [pIns_snoc]; rfl
theorem insS_snoc (P : List FdT) (x : FdT) : insS (P ++ [x]) = putAt (posOf x.1 (insN P) (insN P).length) x.2 (insS P) := by unfold insS insN; rw [pIns_snoc]; rfl
theorem putAt_zip {α β : Type} (p : Nat) (x : α) (y : β) (l : List α) (m : List β) (h : l.length = m.length) : (putAt p x l).zip (putAt p y m) = putAt p (x, y) (l.zip m) := by
 unfold putAt
 rw [List.zip_append (by simp [h]), List.zip_cons_cons]
 simp only [List.zip_eq_zipWith, List.take_zipWith, List.drop_zipWith]
theorem putAt_perm {α : Type} (p : Nat) (x : α) (l : List α) : (putAt p x l).Perm (x :: l) := by
 unfold putAt
 have := (List.perm_middle (a := x) (l₁ := l.take p) (l₂ := l.drop p))
 rw [List.take_append_drop] at this
 exact this
theorem ins_rev (Q : List FdT) : (insN Q.reverse).length = Q.reverse.length /\ (insS Q.reverse).length = Q.reverse.length /\ ((insN Q.reverse).zip (insS Q.reverse)).Perm Q.reverse /\ ((insN Q.reverse).zip (insS Q.reverse)).Pairwise leF := by
 induction Q with
 | nil => exact ⟨rfl, rfl, List.Perm.nil, List.Pairwise.nil⟩
 | cons x Q ih =>
  rw [List.reverse_cons];generalize Q.reverse = P at ih ⊢
  obtain ⟨h1, h2, h3, h4⟩ := ih;have hle := posOf_le x.1 (insN P) (insN P).length;rw [insN_snoc, insS_snoc];refine ⟨by rw [put_len _ _ _ hle, h1]; simp, by rw [put_len _ _ _ (by omega), h2]; simp, ?_, ?_⟩
  ·rw [putAt_zip _ _ _ _ _ (by omega)]
   exact (putAt_perm _ _ _).trans ((List.Perm.cons x h3).trans (List.perm_append_singleton x P).symm)
  ·rw [putAt_zip _ _ _ _ _ (by omega)]
   obtain ⟨Z, hZ⟩ : ∃ Z, Z = (insN P).zip (insS P) := ⟨_, rfl⟩;have hn : insN P = Z.map (·.1) := by rw [hZ, List.map_fst_zip (by omega)]
   rw [<- hZ] at h4 ⊢;rw [hn];clear hZ hn h1 h2 h3 hle
   have key : ∀ k, k <= Z.length -> (∀ j z, Z[j]? = some z -> posOf x.1 (Z.map (·.1)) k <= j -> j < k -> Op.bytesLess x.1.toList z.1.toList = true) /\ (∀ j z, Z[j]? = some z -> j < posOf x.1 (Z.map (·.1)) k -> Op.bytesLess x.1.toList z.1.toList = false) := by
    intro k;induction k with
    | zero => exact fun _ => ⟨fun j z _ _ h => by omega, fun j z _ h => by unfold posOf at h; omega⟩
    | succ k ihk =>
     intro hk;have hZk : Z[k]? = some Z[k] := List.getElem?_eq_getElem (by omega);have hna : nameAt (Z.map (·.1)) k = Z[k].1 := by unfold nameAt; simp [hZk]
     obtain ⟨i1, i2⟩ := ihk (by omega);unfold posOf
     rw [hna];split
     ·rename_i hlt
      refine ⟨fun j z hz h1 h2 => ?_, i2⟩;rcases Nat.lt_or_ge j k with h | h
      ·exact i1 j z hz h1 h
      ·have : j = k := by omega
       subst this;rw [hZk] at hz; cases hz
       exact hlt
     ·rename_i hlt
      refine ⟨fun j z hz h1 h2 => by omega, fun j z hz h1 => ?_⟩;have hlt' : Op.bytesLess x.1.toList Z[k].1.toList = false := by simpa using hlt
      rcases Nat.lt_or_ge j k with h | h
      ·have hp := (List.pairwise_iff_getElem.1 h4) j k (by omega) (by omega) h
       have hj : Z[j]? = some Z[j] := List.getElem?_eq_getElem (by omega);rw [hj] at hz; cases hz
       exact bl_ntrans _ _ _ hlt' hp
      ·have : j = k := by omega
       subst this;rw [hZk] at hz; cases hz
       exact hlt'
   obtain ⟨k1, k2⟩ := key Z.length (Nat.le_refl _);have hpl := posOf_le x.1 (Z.map (·.1)) Z.length;rw [show (Z.map (·.1)).length = Z.length by simp];generalize posOf x.1 (Z.map (·.1)) Z.length = p at k1 k2 hpl
   unfold putAt
   rw [List.pairwise_append]
   have hbehind : ∀ b ∈ Z.drop p, Op.bytesLess x.1.toList b.1.toList = true := fun b hb => by
    obtain ⟨j, hj⟩ := List.getElem?_of_mem hb;rw [List.getElem?_drop] at hj;exact k1 (p + j) b hj (by omega) (List.getElem?_eq_some_iff.1 hj).1
   have hahead : ∀ a ∈ Z.take p, Op.bytesLess x.1.toList a.1.toList = false := fun a ha => by
    obtain ⟨j, hj⟩ := List.getElem?_of_mem ha;rw [List.getElem?_take] at hj;split at hj
    ·rename_i hjp; exact k2 j a hj hjp
    ·cases hj
   refine ⟨h4.sublist (List.take_sublist _ _), List.pairwise_cons.2 ⟨fun b hb => ?_, h4.sublist (List.drop_sublist _ _)⟩, fun a ha b hb => ?_⟩
   ·show Op.bytesLess b.1.toList x.1.toList = false
    cases h : Op.bytesLess b.1.toList x.1.toList with
    | false => rfl
    | true =>
     have := bl_trans _ _ _ (hbehind b hb) h
     rw [bl_irrefl] at this; cases this
   ·rcases List.mem_cons.1 hb with rfl | hb
    ·exact hahead a ha
    ·have : Z = Z.take p ++ Z.drop p := (List.take_append_drop _ _).symm
     rw [this, List.pairwise_append] at h4;exact h4.2.2 a ha b hb
theorem ins_all (P : List FdT) : (insN P).length = P.length /\ (insS P).length = P.length /\ ((insN P).zip (insS P)).Perm P /\ ((insN P).zip (insS P)).Pairwise leF := by
 have := ins_rev P.reverse
 rwa [List.reverse_reverse] at this
theorem insN_len (P : List FdT) : (insN P).length = P.length := (ins_all P).1
theorem twice_ins (s : ByteArray) (P : List FdT) : twice s (insN P) = P.any (fun x => x.1.data.toList == s.data.toList) := by
 obtain ⟨h1, h2, h3, -⟩ := ins_all P
 have hn : insN P = ((insN P).zip (insS P)).map (·.1) := by rw [List.map_fst_zip (by omega)]
 unfold twice
 rw [hn, List.any_map]
 exact h3.any_eq
theorem ins_sorted {P Q : List FdT} (hp : Q.Perm P) (hs : Q.Pairwise leF) (hd : (P.map (·.1)).Nodup) : Q.map (·.1) = insN P /\ Q.map (·.2) = insS P := by
 obtain ⟨h1, h2, h3, h4⟩ := ins_all P
 have e : Q = (insN P).zip (insS P) := by
  refine List.Perm.eq_of_pairwise (le := leF) (fun a b ha hb hab hba => ?_) hs h4 (hp.trans h3.symm);have hab' : a.1.toList = b.1.toList := bl_tri _ _ hba hab
  have hn : a.1 = b.1 := by
   have e1 := Lib.toList_data a.1;have e2 := Lib.toList_data b.1;rw [e1, e2] at hab';have : a.1.data = b.1.data := by apply Array.ext'; exact hab'
   cases ha' : a.1; cases hb' : b.1; rw [ha', hb'] at this; simp at this; rw [this]
  have ma : a ∈ P := hp.subset ha;have mb : b ∈ P := h3.subset hb;obtain ⟨i, hi⟩ := List.getElem?_of_mem ma;obtain ⟨j, hj⟩ := List.getElem?_of_mem mb
  have hij : i = j := by
   have hi' := (List.getElem?_eq_some_iff.1 hi).1
   have hj' := (List.getElem?_eq_some_iff.1 hj).1
   have e1 := (List.getElem?_eq_some_iff.1 hi).2;have e2 := (List.getElem?_eq_some_iff.1 hj).2;have hpw := List.pairwise_iff_getElem.1 hd;rcases Nat.lt_trichotomy i j with h | h | h
   ·exact (hpw i j (by simpa using hi') (by simpa using hj') h (by rw [List.getElem_map, List.getElem_map, e1, e2]; exact hn)).elim
   ·exact h
   ·exact (hpw j i (by simpa using hj') (by simpa using hi') h (by rw [List.getElem_map, List.getElem_map, e1, e2]; exact hn.symm)).elim
  subst hij;rw [hi] at hj; cases hj; rfl
 rw [e]
 exact ⟨List.map_fst_zip (by omega), List.map_snd_zip (by omega)⟩
theorem perm_lift {α β : Type} (f : α -> β) : ∀ {l : List α} {m : List β}, m.Perm (l.map f) -> ∃ k : List α, k.Perm l /\ k.map f = m := by
 intro l m h
 generalize hx : l.map f = x at h
 induction h generalizing l with
 | nil =>
  have : l = [] := by simpa using hx
  subst this;exact ⟨[], List.Perm.nil, rfl⟩
 | cons a h ih =>
  cases l with
  | nil => simp at hx
  | cons b l =>
   simp at hx;obtain ⟨k, hk, hm⟩ := ih hx.2;exact ⟨b :: k, List.Perm.cons b hk, by simp [hx.1, hm]⟩
 | swap a b t =>
  cases l with
  | nil => simp at hx
  | cons u l =>
   cases l with
   | nil => simp at hx
   | cons v l =>
    simp at hx;exact ⟨v :: u :: l, List.Perm.swap u v l, by simp [hx.1, hx.2.1, hx.2.2]⟩
 | trans h1 h2 ih1 ih2 =>
  obtain ⟨k, hk, hm⟩ := ih2 hx;obtain ⟨k', hk', hm'⟩ := ih1 hm;exact ⟨k', hk'.trans hk, hm'⟩
end Go.Proofs.YtddlmigofilejaaGreatDoor.M
namespace Go.Proofs.YtddlmigofilejaaGreatDoor
open Go.RowKit
open Go.Sort
open M
structure Nv where
  s : ByteArray
  k : Int
  p : ByteArray
  m : Int
  d : ByteArray
  n : ByteArray
  A5 : Option Addr
  n5 : Nat
  c5 : Nat
  A6 : Option Addr
  n6 : Nat
  c6 : Nat
instance : Inhabited Nv := ⟨⟨⟨#[]⟩, 0, ⟨#[]⟩, 0, ⟨#[]⟩, ⟨#[]⟩, none, 0, 0, none, 0, 0⟩⟩
def Nv.ty (x : Nv) : List Value := [.int .i64 x.k, .string x.p, .int .i64 x.m, .string x.d, .string x.n, .slice x.A5 x.n5 x.c5, .slice x.A6 x.n6 x.c6]
def Nv.enc (x : Nv) : List Value := [.string x.s, .int .i64 x.k, .string x.p, .int .i64 x.m, .string x.d, .string x.n, .slice x.A5 x.n5 x.c5, .slice x.A6 x.n6 x.c6]
theorem Nv.len (x : Nv) : x.enc.length = 8 := rfl
theorem Nv.one (x : Nv) : ∀ v ∈ x.enc, v.oneCell' = true := fun v hv => by
  simp [Nv.enc] at hv;rcases hv with rfl | rfl | rfl | rfl | rfl | rfl | rfl | rfl <;> rfl
abbrev Nt := Nv × Ty
def rowN (P : List Nt) : List Value := (P.map (fun x => x.1.enc)).flatten
theorem rowN_snoc (P : List Nt) (x : Nt) : rowN (P ++ [x]) = rowN P ++ x.1.enc := by unfold rowN; simp
theorem rowN_at : ∀ (P : List Nt) (i q : Nat) (x : Nt), P[i]? = some x -> q < 8 -> (rowN P)[i * 8 + q]? = x.1.enc[q]?
  | [], i, q, x, h, _ => by simp at h
  | y :: P, 0, q, x, h, hq => by
    simp at h; subst h
    unfold rowN
    rw [List.map_cons, List.flatten_cons, List.getElem?_append_left (by rw [y.1.len]; omega)];simp
  | y :: P, i + 1, q, x, h, hq => by
    have h' : P[i]? = some x := by simpa using h
    have := rowN_at P i q x h' hq
    unfold rowN at this ⊢
    rw [List.map_cons, List.flatten_cons, List.getElem?_append_right (by rw [y.1.len]; omega), y.1.len, show (i + 1) * 8 + q - 8 = i * 8 + q by omega];exact this
def fdOf (P : List Nt) : List FdT := P.map (fun x => (x.1.s, x.2))
theorem fdOf_snoc (P : List Nt) (x : Nt) : fdOf (P ++ [x]) = fdOf P ++ [(x.1.s, x.2)] := by unfold fdOf; simp
theorem fdOf_len (P : List Nt) : (fdOf P).length = P.length := by unfold fdOf; simp
structure NmR (lo : Nat) (P : List Nt) (n : Nat) (v : Value) (w : World) : Prop where
  len : P.length = n
  own : w.ownsRow lo 50 8 v n (rowN P)
  szs : ∀ x, x ∈ P -> x.1.s.size <= 281474976710656
  trees : ∀ x, x ∈ P -> TyAt (strike (fun b => b < lo \/ v.ownBlock = some b) w) x.1.ty x.2
theorem NmR.start (lo : Nat) (w : World) : NmR lo [] 0 (.slice none 0 0) w := ⟨rfl, World.ownsRow_nil _ _ _ _, fun x h => by simp at h, fun x h => by simp at h⟩
theorem NmR.keep {lo : Nat} {P : List Nt} {n : Nat} {v : Value} {w w' : World} (h : NmR lo P n v w) (hz : w.heap.size <= w'.heap.size) (hb : ∀ b, lo <= b -> b < w.heap.size -> w'.heap[b]? = w.heap[b]?) : NmR lo P n v w' :=
  ⟨h.len, own_from h.own hb, h.szs, fun x hx => (h.trees x hx).move hz fun b hlt hS => ⟨hS, hb b (by
    rcases Nat.lt_or_ge b lo with h | h
    · exact absurd (.inl h) hS
    · exact h) hlt⟩⟩
theorem NmR.first {lo g : Nat} {x : Nt} {w : World} (hlo : lo <= g) (hg : w.heap[g]? = some (.cells x.1.enc.toArray 50 (0, 0))) (hs : x.1.s.size <= 281474976710656) (hT : TyAt (strike (fun b => b < lo \/ b = g) w) x.1.ty x.2) :
    NmR lo [x] 1 (.slice (some ⟨g, 0, none⟩) 1 1) w := by
  refine ⟨rfl, ⟨by simp [rowN, x.1.len], .inr ⟨g, 1, x.1.enc.toArray, rfl, hlo, hg, Nat.le_refl _, by decide, by simp [x.1.len], ?_⟩⟩, fun y hy => by simp at hy; subst hy; exact hs, fun y hy => ?_⟩
  · simp [rowN, <- x.1.len]
  · simp at hy; subst hy
    refine TyAt.move hT (Nat.le_refl _) fun b _ hS => ⟨?_, rfl⟩
    rintro (e | e)
    · exact hS (.inl e)
    · simp [Value.ownBlock] at e; exact hS (.inr e.symm)
theorem NmR.moreK {cu r lo g cap n : Nat} {P : List Nt} {v : Value} {w wo w1 w3 : World} {o : Obj} {x : Nt}
    (h : NmR lo P n v w1) (hlo : lo <= wo.heap.size) (hwo : ∀ b, v.ownBlock = some b -> b < wo.heap.size) (hs : x.1.s.size <= 281474976710656)
    (hT : TyAt (strike (· < wo.heap.size) w1) x.1.ty x.2) (hown : w3.ownsRow lo 50 8 (.slice (some ⟨g, 0, none⟩) (n + 1) cap) (n + 1) (rowN P ++ x.1.enc)) (hgrow : (w1.alloc o).grownBy w3 v.ownBlock)
    (hat : v.ownBlock = some g \/ g = (w1.alloc o).heap.size) (hK : KQ cu r w w1) (hw : w.heap.size <= lo) :
    NmR lo (P ++ [x]) (n + 1) (.slice (some ⟨g, 0, none⟩) (n + 1) cap) w3 /\ KQ cu r w w3 /\ (∀ b, b < lo -> b < w1.heap.size -> w3.heap[b]? = w1.heap[b]?) /\
    (∀ b, (∀ vs fr, w1.heap[b]? ≠ some (Obj.cells vs 50 fr)) -> b < w1.heap.size -> w3.heap[b]? = w1.heap[b]?) /\ w1.heap.size <= w3.heap.size := by
  have hlow : ∀ b, v.ownBlock = some b -> lo <= b := fun b e => (h.own.lt b e).1
  have hsz : (w1.alloc o).heap.size = w1.heap.size + 1 := by simp
  have hsz3 := hgrow.size
  have hold : ∀ b, b < w1.heap.size -> v.ownBlock ≠ some b -> w3.heap[b]? = w1.heap[b]? := fun b hb hne => by
    rw [hgrow.block b (by omega) (fun e => hne e.symm)];exact Lib.alloc_old w1 o b hb
  have mv : ∀ l t, TyAt (strike (fun b => b < lo \/ v.ownBlock = some b) w1) l t -> TyAt (strike (fun b => b < lo \/ (Value.slice (some ⟨g, 0, none⟩) (n + 1) cap).ownBlock = some b) w3) l t := fun l t hT => by
    refine TyAt.move hT (by omega) fun b hb hS => ⟨?_, hold b hb (fun e => hS (.inr e))⟩
    rintro (e | e)
    · exact hS (.inl e)
    · simp [Value.ownBlock] at e
      subst e;rcases hat with e | e
      · exact hS (.inr e)
      · omega
  refine ⟨⟨by simp [h.len], by rw [rowN_snoc]; exact hown, fun y hy => ?_, fun y hy => mv _ _ ?_⟩, (hK.alloc o).grow hgrow fun b e => by have := hlow b e; omega, fun b hb hlt => hold b hlt (fun e => by have := hlow b e; omega), fun b hb hlt => hold b hlt (fun e => ?_), by omega⟩
  · rcases List.mem_append.1 hy with hy | hy
    · exact h.szs y hy
    · rw [List.mem_singleton.1 hy]; exact hs
  · rcases List.mem_append.1 hy with hy | hy
    · exact h.trees y hy
    · rw [List.mem_singleton.1 hy]
      refine TyAt.move hT (Nat.le_refl _) fun b hlt hS => ⟨?_, rfl⟩
      rintro (e | e)
      · omega
      · have := hwo b e; omega
  · rcases h.own.2 with ⟨e1, -⟩ | ⟨g6, cap6, cur6, hv, -, hg6, -⟩
    · rw [e1] at e; simp [Value.ownBlock] at e
    · rw [hv] at e; simp [Value.ownBlock] at e
      subst e;exact hb _ _ hg6
theorem NmR.cell {lo : Nat} {P : List Nt} {n : Nat} {v : Value} {w : World} (h : NmR lo P n v w) : ∃ A cap, v = .slice A n cap /\
    ∀ k x, P[k]? = some x -> ∃ g, A = some ⟨g, 0, none⟩ /\ lo <= g /\ g < w.heap.size /\ ∀ q u, x.1.enc[q]? = some u -> w.cell? ⟨g, 0 + k * 8 + q, none⟩ = some u := by
  have hl := h.len;rcases h.own.2 with ⟨rfl, h0⟩ | ⟨g, cap, cur, rfl, hB, hg, hnc, hcm, hcs, htake⟩
  · subst h0
    exact ⟨none, 0, rfl, fun k x hx => by have := (List.getElem?_eq_some_iff.1 hx).1; omega⟩
  · refine ⟨_, _, rfl, fun k x hx => ⟨g, rfl, hB, (Array.getElem?_eq_some_iff.1 hg).1, fun q u hu => ?_⟩⟩
    have hk := (List.getElem?_eq_some_iff.1 hx).1;have hq : q < 8 := by have := (List.getElem?_eq_some_iff.1 hu).1; rwa [x.1.len] at this
    rw [cZ hg, <- Array.getElem?_toList];have e2 := rowN_at P k q x hx hq;rw [<- htake, List.getElem?_take] at e2;split at e2
    · rw [show 0 + k * 8 + q = k * 8 + q by omega, e2]; exact hu
    · rename_i hn; omega
theorem clos_any (x : Nv) (t : ByteArray) (B : Nat) (w : World) (hB : w.cell? ⟨B, 2, none⟩ = some (.string t)) :
    Calls Tryz.prog 257 #[.agg #[.string x.s, .int .i64 x.k, .string x.p, .int .i64 x.m, .string x.d, .string x.n, .slice x.A5 x.n5 x.c5, .slice x.A6 x.n6 x.c6], .pointer (some ⟨B, 0, none⟩)] w fun e w' => e = .returned (.bool (x.s.data.toList == t.data.toList)) /\ Below w.heap.size w w' := by
  obtain ⟨u, hu⟩ : ∃ u, (x.s.data.toList == t.data.toList) = u := ⟨_, rfl⟩;have R : Hid ((x.s.toList == t.toList) = u) := zH (by rw [<- hu, Lib.toList_data, Lib.toList_data]);rw [hu];clear hu;have hlt := World.block_lt_of_cell? _ _ hB;have hne : B ≠ w.heap.size := Nat.ne_of_lt hlt;go_enter Tryz.func257, Tryz.ntmps257
  go_wp2_with fail
  go_ret;exact ⟨by rw [<- R.out]; rfl, below_new (Below.refl _ _) _⟩
theorem index_named (A : Option Addr) (cap n : Nat) (P : List Nt) (t : ByteArray) (B : Nat) (w : World) (hn : P.length = n) (hz : n <= 1000000)
    (hS : ∀ k x, P[k]? = some x -> ∃ g, A = some ⟨g, 0, none⟩ /\ g < w.heap.size /\ ∀ q u, x.1.enc[q]? = some u -> w.cell? ⟨g, 0 + k * 8 + q, none⟩ = some u) (hB : w.cell? ⟨B, 2, none⟩ = some (.string t)) :
    Calls Tryz.prog 188 #[.slice A n cap, .func (.func 257) #[] #[.pointer (some ⟨B, 0, none⟩)]] w fun e w' =>
      ∃ r : Int, e = .returned (.int .i64 r) /\ decide (0 <= r) = P.any (fun x => x.1.s.data.toList == t.data.toList) /\ Below w.heap.size w w' := by
  have HS : Hid (∀ k x, P[k]? = some x -> ∃ g o, A = some ⟨g, o, none⟩ /\ g < w.heap.size /\ ∀ q u, x.1.enc[q]? = some u -> w.cell? ⟨g, o + k * 8 + q, none⟩ = some u) := zH (fun k x hx => by
    obtain ⟨g, h1, h2, h3⟩ := hS k x hx;exact ⟨g, 0, h1, h2, h3⟩)
  have HN := zH hn;have HB := zH hB;have hBl := World.block_lt_of_cell? _ _ hB;have eg : ∀ args w, (callFunc 257 args).run Tryz.prog w = .ok (.enter 257 args) w := enters_of Tryz.func257 (by kernel_rfl) rfl;clear hS hn hB;go_enter Tryz.func188, Tryz.ntmps188
  go_wp2_with fail
  go_loopw [8] (fun i wr => ∃ k : Nat, k <= n /\ i = .int .i64 k /\ Hid (∀ j x, j < k -> P[j]? = some x -> (x.1.s.data.toList == t.data.toList) = false) /\ Below w.heap.size w wr) (fun i _ => n - (intOf i).toNat)
  case atStart => exact ⟨0, by omega, rfl, zH (fun j s h => by omega), Below.refl _ _⟩
  case round =>
    obtain ⟨k, hk, rfl, HP, hb⟩ := hrel;obtain ⟨wo, rfl⟩ : ∃ wo : World, wo = wr := ⟨_, rfl⟩;by_cases hlt : k < n
    · obtain ⟨x, hs⟩ : ∃ x, P[k]? = some x := ⟨_, List.getElem?_eq_getElem (by rw [HN.out]; exact hlt)⟩
      obtain ⟨g, o, rfl, hgl, hcs⟩ := HS.out k x hs;have cc : ∀ q u, x.1.enc[q]? = some u -> wo.cell? ⟨g, o + k * 8 + q, none⟩ = some u := fun q u hu => (hb.cell (p := ⟨g, _, none⟩) hgl).trans (hcs q u hu)
      have h0 : wo.cell? ⟨g, o + k * 8, none⟩ = some (.string x.1.s) := cc 0 _ rfl;have h1 := cc 1 _ rfl;have h2 := cc 2 _ rfl;have h3 := cc 3 _ rfl;have h4 := cc 4 _ rfl;have h5 := cc 5 _ rfl;have h6 := cc 6 _ rfl;have h7 := cc 7 _ rfl;have CL := zH (clos_any x.1 t B wo ((hb.cell (p := ⟨B, _, none⟩) hBl).trans HB.out));have HSS := zH hs;clear hcs cc hs;rcases hid_or (x.1.s.data.toList == t.data.toList) with hp | hp
      rotate_left
      · have R : Hid (decide (0 <= (k : Int)) = P.any (fun x => x.1.s.data.toList == t.data.toList)) := zH (by
          rw [show P.any (fun x => x.1.s.data.toList == t.data.toList) = true from List.any_eq_true.2 ⟨x, List.mem_of_getElem? HSS.out, hp.out⟩];simp)
        go_wp2_with fail
        refine CL.out.mono ?_; rintro e w2 ⟨rfl, hb2⟩; rw [hp.out]
        have hb3 := below_over hb hb2;clear h0 h1 h2 h3 h4 h5 h6 h7 hb hb2;go_wp2_with fail
        go_ret;exact ⟨_, rfl, R.out, hb3⟩
      · go_wp2_with fail
        refine CL.out.mono ?_; rintro e w2 ⟨rfl, hb2⟩; rw [hp.out]
        have hb3 := below_over hb hb2;clear h0 h1 h2 h3 h4 h5 h6 h7 hb hb2;go_wp2_with fail
        go_roundw
        case rel => exact ⟨k + 1, by omega, by go_num, zH (fun j q hj hq => by
          rcases Nat.lt_or_ge j k with a | a
          · exact HP.out j q a hq
          · rw [show j = k by omega, HSS.out] at hq
            obtain rfl := Option.some.inj hq;exact hp.out), hb3⟩
        case measure => simp [intOf]; omega
    · have R : Hid (decide (0 <= (-1 : Int)) = P.any (fun x => x.1.s.data.toList == t.data.toList)) := zH (by
        rw [show P.any (fun x => x.1.s.data.toList == t.data.toList) = false from List.any_eq_false.2 (fun x hx => by
          obtain ⟨j, hj⟩ := List.getElem?_of_mem hx;have hjl := (List.getElem?_eq_some_iff.1 hj).1;rw [HP.out j x (by rw [HN.out] at hjl; omega) hj]; decide)]
        rfl)
      go_wp2_with fail
      go_ret;exact ⟨_, rfl, R.out, hb⟩
theorem contains_named {lo : Nat} {P : List Nt} {n : Nat} {v : Value} {w : World} (hR : NmR lo P n v w) (hz : n <= 1000000) (t : ByteArray) (B : Nat) (hB : w.cell? ⟨B, 2, none⟩ = some (.string t)) :
    Calls Tryz.prog 256 #[v, .func (.func 257) #[] #[.pointer (some ⟨B, 0, none⟩)]] w fun e w' =>
      e = .returned (.bool (P.any (fun x => x.1.s.data.toList == t.data.toList))) /\ Below w.heap.size w w' := by
  obtain ⟨A, cap, rfl, hS⟩ := hR.cell
  have IX := zH (index_named A cap n P t B w hR.len hz (fun k x hx => by
    obtain ⟨g, h1, -, h2, h3⟩ := hS k x hx;exact ⟨g, h1, h2, h3⟩) hB)
  clear hR hS hB;go_enter Tryz.func256, Tryz.ntmps256
  go_wp2_with fail
  refine IX.out.mono ?_; rintro e w1 ⟨r, rfl, hr, hb1⟩
  have R := zH hr;clear hr IX;go_wp2_with fail
  go_ret;exact ⟨by rw [<- R.out]; rfl, hb1⟩
end Go.Proofs.YtddlmigofilejaaGreatDoor
